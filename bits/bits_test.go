package bits

import (
	"bytes"
	"math"
	"math/big"
	"math/rand"
	"testing"

	"psaltery/api"
)

// plain is a block as a list of bits, the front's first one first.
type plain struct {
	bits        []uint
	front, back int
}

func newPlain(n int) *plain { return &plain{bits: make([]uint, 8*n)} }

// plainOf takes the bytes as one great number, whose highest bit is the front's first.
func plainOf(b []byte) *plain {
	p := newPlain(len(b))
	all := new(big.Int).SetBytes(b)
	for i := range p.bits {
		p.bits[i] = all.Bit(len(p.bits) - 1 - i)
	}
	return p
}

func (p *plain) left() int { return len(p.bits) - p.front - p.back }

func (p *plain) bytes() []byte {
	all := new(big.Int)
	for i, x := range p.bits {
		all.SetBit(all, len(p.bits)-1-i, x)
	}
	return all.FillBytes(make([]byte, len(p.bits)/8))
}

// take is the piece of k bits at an end, the highest bit of its number first, and no error, or none and the error.
func (p *plain) take(back bool, k int) ([]uint, api.Errno) {
	if k < 0 || k > 32 {
		return nil, api.ErrArg
	}
	if k > p.left() {
		return nil, api.ErrEnd
	}
	if back {
		p.back += k
		return p.bits[len(p.bits)-p.back:][:k], api.OK
	}
	p.front += k
	return p.bits[p.front-k : p.front], api.OK
}

func (p *plain) write(back bool, v uint32, k int) api.Errno {
	if k >= 0 && uint64(v) >= uint64(1)<<k {
		return api.ErrArg
	}
	piece, e := p.take(back, k)
	for j := range piece {
		piece[j] = uint(v>>(k-1-j)) & 1
	}
	return e
}

func (p *plain) read(back bool, k int) (uint32, api.Errno) {
	piece, e := p.take(back, k)
	v := uint32(0)
	for _, x := range piece {
		v = 2*v + uint32(x)
	}
	return v, e
}

func write(p *Pad, back bool, v uint32, k int) api.Errno {
	if back {
		return p.Back(v, k)
	}
	return p.Front(v, k)
}

func read(e *Eye, back bool, k int) (uint32, api.Errno) {
	if back {
		return e.Back(k)
	}
	return e.Front(k)
}

func newPad(t *testing.T, n int) *Pad {
	t.Helper()
	p, e := New(n)
	if p == nil || e != api.OK {
		t.Fatalf("P5.1: New(%d): %v, error %d", n, p != nil, e)
	}
	return p
}

func newEye(t *testing.T, b []byte) *Eye {
	t.Helper()
	x, e := Open(b)
	if x == nil || e != api.OK {
		t.Fatalf("P5.2: Open of %d bytes: %v, error %d", len(b), x != nil, e)
	}
	return x
}

func padIs(t *testing.T, p *Pad, want []byte, left int) {
	t.Helper()
	if got := p.Bytes(); !bytes.Equal(got, want) {
		t.Fatalf("P5.1: Bytes: %x, want %x", got, want)
	}
	if p.Left() != left {
		t.Fatalf("P5.1: Left: %d, want %d", p.Left(), left)
	}
}

func eyeIs(t *testing.T, x *Eye, front, back, left int) {
	t.Helper()
	if f, b := x.Used(); f != front || b != back {
		t.Fatalf("P5.2: Used: %d, %d, want %d, %d", f, b, front, back)
	}
	if x.Left() != left {
		t.Fatalf("P5.2: Left: %d, want %d", x.Left(), left)
	}
}

// sides are the orders in which a test goes to the two ends.
var sides = []struct {
	name string
	back func(i int) bool
}{
	{"front", func(int) bool { return false }},
	{"back", func(int) bool { return true }},
	{"turns", inTurns},
	{"pairs", func(i int) bool { return i/2%2 == 0 }},
}

func inTurns(i int) bool { return i%2 == 1 }

var badSizes = []struct {
	n int
	e api.Errno
}{
	{-1, api.ErrArg}, {-8, api.ErrArg}, {-512, api.ErrArg}, {-513, api.ErrArg}, {-1 << 32, api.ErrArg}, {math.MinInt, api.ErrArg}, {math.MinInt + 1, api.ErrArg},
	{513, api.ErrLong}, {514, api.ErrLong}, {1024, api.ErrLong}, {4096, api.ErrLong}, {1 << 32, api.ErrLong}, {1<<32 + 1, api.ErrLong}, {1 << 61, api.ErrLong}, {math.MaxInt, api.ErrLong},
}

func TestNew(t *testing.T) {
	for n := 0; n <= 512; n++ {
		padIs(t, newPad(t, n), make([]byte, n), 8*n)
	}
	for _, x := range badSizes {
		if p, e := New(x.n); p != nil || e != x.e {
			t.Errorf("P5.1: New(%d): %v, error %d, want %d", x.n, p != nil, e, x.e)
		}
	}
}

func TestNewPadsShareNothing(t *testing.T) {
	a, b := newPad(t, 2), newPad(t, 2)
	a.Front(0xffff, 16)
	padIs(t, b, []byte{0, 0}, 16)
	b.Back(1, 3)
	padIs(t, a, []byte{0xff, 0xff}, 0)
	padIs(t, b, []byte{0, 1}, 13)
}

// The bytes are those that the chapter's words ask for, reckoned by hand.
func TestPadKnown(t *testing.T) {
	type call struct {
		back bool
		v    uint32
		k    int
	}
	for i, x := range []struct {
		n     int
		calls []call
		want  []byte
		left  int
	}{
		{1, []call{{false, 1, 1}, {true, 1, 1}}, []byte{129}, 6},
		{1, []call{{false, 1, 2}}, []byte{0x40}, 6},
		{1, []call{{true, 1, 2}}, []byte{0x01}, 6},
		{1, []call{{true, 2, 2}}, []byte{0x02}, 6},
		{1, []call{{false, 0, 3}, {false, 3, 2}}, []byte{0x18}, 3},
		{1, []call{{true, 0, 3}, {true, 1, 2}}, []byte{0x08}, 3},
		{2, []call{{false, 0x123, 12}, {true, 4, 4}}, []byte{0x12, 0x34}, 0},
		{2, []call{{true, 0x234, 12}, {false, 1, 4}}, []byte{0x12, 0x34}, 0},
		{2, []call{{true, 0xabc, 12}}, []byte{0x0a, 0xbc}, 4},
		{2, []call{{false, 0xabc, 12}}, []byte{0xab, 0xc0}, 4},
		{5, []call{{false, 0x89abcdef, 32}, {true, 0x5a, 8}}, []byte{0x89, 0xab, 0xcd, 0xef, 0x5a}, 0},
		{5, []call{{true, 0x89abcdef, 32}, {false, 0x5a, 8}}, []byte{0x5a, 0x89, 0xab, 0xcd, 0xef}, 0},
		{5, []call{{false, 1, 1}, {false, 0x80000001, 32}, {true, 1, 7}}, []byte{0xc0, 0, 0, 0, 0x81}, 0},
		{5, []call{{true, 1, 1}, {true, 0x80000001, 32}, {false, 1, 7}}, []byte{0x03, 0, 0, 0, 0x03}, 0},
		{0, []call{{false, 0, 0}, {true, 0, 0}}, nil, 0},
	} {
		p := newPad(t, x.n)
		for j, c := range x.calls {
			if e := write(p, c.back, c.v, c.k); e != api.OK {
				t.Fatalf("P5.1: row %d, call %d: error %d", i, j, e)
			}
		}
		padIs(t, p, x.want, x.left)
	}
}

// Every count of bits, at every beginning within a byte, from either end.
func TestPadEveryCount(t *testing.T) {
	for _, back := range []bool{false, true} {
		for ahead := range 8 {
			for k := 0; k <= 32; k++ {
				full := uint32(uint64(1)<<k - 1)
				for _, v := range []uint32{0, full, full / 2, full - full/2, full & 0xa5c3f096, full & 0x12345678, full & 1} {
					p, want := newPad(t, 7), newPlain(7)
					write(p, back, 0, ahead)
					want.write(back, 0, ahead)
					if e := write(p, back, v, k); e != api.OK || want.write(back, v, k) != api.OK {
						t.Fatalf("P5.1: back %v, behind %d: %d in %d bits: error %d", back, ahead, v, k, e)
					}
					padIs(t, p, want.bytes(), 56-ahead-k)
				}
			}
		}
	}
}

// v that just has k bits is taken; one bit more is refused, and so is every count that isn't one.
func TestPadArguments(t *testing.T) {
	for _, back := range []bool{false, true} {
		for _, n := range []int{0, 1, 8, 512} {
			p := newPad(t, n)
			left := 8 * n
			mark := make([]byte, n)
			if n > 0 {
				write(p, back, 1, 1)
				left--
				mark[0] = 0x80
				if back {
					mark[0] = 0
					mark[n-1] |= 1
				}
			}
			for k := 0; k < 32; k++ {
				for _, v := range []uint32{1 << k, 1<<k | 1, math.MaxUint32, 1 << 31} {
					if e := write(p, back, v, k); e != api.ErrArg {
						t.Fatalf("P5.1: back %v, %d bytes: %d in %d bits: error %d", back, n, v, k, e)
					}
				}
			}
			for _, k := range []int{-1, -2, -31, -32, -33, -64, 33, 34, 63, 64, 65, 96, 4096, 1 << 32, 1<<32 + 1, -1 << 32, math.MinInt, math.MinInt + 1, math.MaxInt} {
				for _, v := range []uint32{0, 1, math.MaxUint32} {
					if e := write(p, back, v, k); e != api.ErrArg {
						t.Fatalf("P5.1: back %v, %d bytes: %d in %d bits: error %d", back, n, v, k, e)
					}
				}
			}
			padIs(t, p, mark, left)
		}
	}
}

// Just as many bits left as are asked for, and one fewer: then nothing is done.
func TestPadEnd(t *testing.T) {
	for _, back := range []bool{false, true} {
		for _, other := range []bool{false, true} {
			for k := 1; k <= 32; k++ {
				p, want := newPad(t, 8), newPlain(8)
				full := uint32(uint64(1)<<k - 1)
				for want.left() > k-1 {
					one := min(32, want.left()-k+1)
					write(p, other, 0, one)
					want.write(other, 0, one)
				}
				if e := write(p, back, full, k); e != api.ErrEnd {
					t.Fatalf("P5.1: %d bits of %d left: error %d", k, k-1, e)
				}
				padIs(t, p, make([]byte, 8), k-1)
				if e := write(p, back, full>>1, k-1); e != api.OK || want.write(back, full>>1, k-1) != api.OK {
					t.Fatalf("P5.1: %d bits of as many: error %d", k-1, e)
				}
				padIs(t, p, want.bytes(), 0)
				for _, b := range []bool{false, true} {
					if e := write(p, b, 0, 1); e != api.ErrEnd {
						t.Fatalf("P5.1: one bit of none: error %d", e)
					}
					if e := write(p, b, 0, 0); e != api.OK {
						t.Fatalf("P5.1: no bit of none: error %d", e)
					}
				}
				padIs(t, p, want.bytes(), 0)
			}
		}
	}
}

// What Bytes told is the caller's, to the end of its capacity; the pad goes on as it was.
func TestPadBytesAreNew(t *testing.T) {
	for _, n := range []int{0, 1, 3, 511, 512} {
		p, want := newPad(t, n), newPlain(n)
		for i := 0; want.left() >= 5; i++ {
			a, b := p.Bytes(), p.Bytes()
			a, b = a[:cap(a)], b[:cap(b)]
			keep := bytes.Clone(b)
			for j := range a {
				a[j] ^= 0xff
			}
			if !bytes.Equal(b, keep) {
				t.Fatalf("P5.1: two answers of Bytes lie in one memory")
			}
			write(p, i%2 == 0, uint32(i%32), 5)
			want.write(i%2 == 0, uint32(i%32), 5)
			if !bytes.Equal(b, keep) {
				t.Fatalf("P5.1: what Bytes told changed with the pad")
			}
		}
		padIs(t, p, want.bytes(), want.left())
	}
}

func TestPadOfNil(t *testing.T) {
	var p *Pad
	for _, k := range []int{0, 1, 32, 33, -1, math.MinInt, math.MaxInt} {
		for _, v := range []uint32{0, 1, math.MaxUint32} {
			if e := p.Front(v, k); e != api.ErrNil {
				t.Errorf("P5.1: nil.Front(%d, %d): error %d", v, k, e)
			}
			if e := p.Back(v, k); e != api.ErrNil {
				t.Errorf("P5.1: nil.Back(%d, %d): error %d", v, k, e)
			}
		}
	}
	if p.Left() != 0 || len(p.Bytes()) != 0 {
		t.Errorf("P5.1: nil: Left %d, Bytes %x", p.Left(), p.Bytes())
	}
}

func TestOpen(t *testing.T) {
	all := make([]byte, 1100)
	for i := range all {
		all[i] = byte(37*i + 11)
	}
	for n := 0; n <= 512; n++ {
		eyeIs(t, newEye(t, all[:n]), 0, 0, 8*n)
	}
	eyeIs(t, newEye(t, nil), 0, 0, 0)
	for _, n := range []int{513, 514, 1024, 1100} {
		if x, e := Open(all[:n]); x != nil || e != api.ErrLong {
			t.Errorf("P5.2: Open of %d bytes: %v, error %d", n, x != nil, e)
		}
	}
}

// An eye looks at the bytes as they were; it changes none of them, and nothing behind them.
func TestOpenKeepsNothing(t *testing.T) {
	given := []byte{0x12, 0x34, 0x56, 0x78, 0x9a, 0xbc}
	x := newEye(t, given[:4])
	y := newEye(t, given[:4])
	if v, e := x.Front(12); v != 0x123 || e != api.OK {
		t.Errorf("P5.2: Front(12): %x, error %d", v, e)
	}
	if v, e := x.Back(12); v != 0x678 || e != api.OK {
		t.Errorf("P5.2: Back(12): %x, error %d", v, e)
	}
	if x.Bit(3) != 1 || !bytes.Equal(given, []byte{0x12, 0x34, 0x56, 0x78, 0x9a, 0xbc}) {
		t.Errorf("P5.2: what was handed in is %x", given)
	}
	for i := range given {
		given[i] ^= 0xff
	}
	if v, e := x.Front(8); v != 0x45 || e != api.OK {
		t.Errorf("P5.2: Front(8) of changed bytes: %x, error %d", v, e)
	}
	eyeIs(t, y, 0, 0, 32)
	if v, e := y.Back(32); v != 0x12345678 || e != api.OK {
		t.Errorf("P5.2: Back(32) of changed bytes: %x, error %d", v, e)
	}
	eyeIs(t, x, 20, 12, 0)
}

func TestEyeEveryCount(t *testing.T) {
	b := []byte{0x80, 0xff, 0x01, 0xa5, 0xc3, 0x5a, 0x7f}
	for _, back := range []bool{false, true} {
		for ahead := range 8 {
			for k := 0; k <= 32; k++ {
				x, want := newEye(t, b), plainOf(b)
				read(x, back, ahead)
				want.read(back, ahead)
				w, _ := want.read(back, k)
				if v, e := read(x, back, k); v != w || e != api.OK {
					t.Fatalf("P5.2: back %v, behind %d: %d bits: %x, want %x, error %d", back, ahead, k, v, w, e)
				}
				eyeIs(t, x, want.front, want.back, 56-ahead-k)
			}
		}
	}
}

func TestEyeArguments(t *testing.T) {
	for _, n := range []int{0, 1, 8, 512} {
		x := newEye(t, bytes.Repeat([]byte{0xff}, n))
		for _, back := range []bool{false, true} {
			for _, k := range []int{-1, -2, -32, -64, 33, 34, 64, 65, 4096, 1 << 32, 1<<32 + 1, math.MinInt, math.MaxInt} {
				if v, e := read(x, back, k); v != 0 || e != api.ErrArg {
					t.Fatalf("P5.2: back %v, %d bytes: %d bits: %d, error %d", back, n, k, v, e)
				}
			}
		}
		eyeIs(t, x, 0, 0, 8*n)
	}
}

func TestEyeEnd(t *testing.T) {
	b := bytes.Repeat([]byte{0xff}, 8)
	for _, back := range []bool{false, true} {
		for _, other := range []bool{false, true} {
			for k := 1; k <= 32; k++ {
				x, want := newEye(t, b), plainOf(b)
				for want.left() > k-1 {
					one := min(32, want.left()-k+1)
					read(x, other, one)
					want.read(other, one)
				}
				if v, e := read(x, back, k); v != 0 || e != api.ErrEnd {
					t.Fatalf("P5.2: %d bits of %d left: %d, error %d", k, k-1, v, e)
				}
				eyeIs(t, x, want.front, want.back, k-1)
				if v, e := read(x, back, k-1); v != 1<<(k-1)-1 || e != api.OK {
					t.Fatalf("P5.2: %d bits of as many: %d, error %d", k-1, v, e)
				}
				want.read(back, k-1)
				for _, side := range []bool{false, true} {
					if v, e := read(x, side, 1); v != 0 || e != api.ErrEnd {
						t.Fatalf("P5.2: one bit of none: %d, error %d", v, e)
					}
					if v, e := read(x, side, 0); v != 0 || e != api.OK {
						t.Fatalf("P5.2: no bit of none: %d, error %d", v, e)
					}
				}
				eyeIs(t, x, want.front, want.back, 0)
			}
		}
	}
}

// Bit tells every bit, taken or not, and takes none.
func TestBit(t *testing.T) {
	r := rand.New(rand.NewSource(52))
	for _, n := range []int{0, 1, 2, 3, 511, 512} {
		b := make([]byte, n)
		r.Read(b)
		if n > 0 {
			b[n-1] |= 1
			b[0] |= 0x80
		}
		x, want := newEye(t, b), plainOf(b)
		for round := 0; ; round++ {
			for i, w := range want.bits {
				if x.Bit(i) != int(w) {
					t.Fatalf("P5.2: %d bytes: Bit(%d): %d", n, i, x.Bit(i))
				}
			}
			for _, i := range []int{-1, -2, -8, -8 * n, 8 * n, 8*n + 1, 8*n + 8, 4096, 1 << 32, 1 << 35, math.MinInt, math.MaxInt} {
				if i != 0 && (i < 0 || i >= 8*n) && x.Bit(i) != 0 {
					t.Fatalf("P5.2: %d bytes: Bit(%d): %d", n, i, x.Bit(i))
				}
			}
			eyeIs(t, x, want.front, want.back, want.left())
			if want.left() == 0 {
				break
			}
			k := min(32, want.left())
			read(x, round%2 == 0, k)
			want.read(round%2 == 0, k)
		}
	}
}

func TestEyeOfNil(t *testing.T) {
	var x *Eye
	for _, k := range []int{0, 1, 32, 33, -1, math.MinInt, math.MaxInt} {
		if v, e := x.Front(k); v != 0 || e != api.ErrNil {
			t.Errorf("P5.2: nil.Front(%d): %d, error %d", k, v, e)
		}
		if v, e := x.Back(k); v != 0 || e != api.ErrNil {
			t.Errorf("P5.2: nil.Back(%d): %d, error %d", k, v, e)
		}
		if x.Bit(k) != 0 {
			t.Errorf("P5.2: nil.Bit(%d): %d", k, x.Bit(k))
		}
	}
	eyeIs(t, x, 0, 0, 0)
}

// What one eye takes, another on the same bytes still has.
func TestEyesShareNothing(t *testing.T) {
	b := []byte{0xa5, 0x3c}
	x, y := newEye(t, b), newEye(t, b)
	x.Front(9)
	x.Back(2)
	eyeIs(t, y, 0, 0, 16)
	y.Back(4)
	eyeIs(t, x, 9, 2, 5)
	eyeIs(t, y, 0, 4, 12)
}

type written struct {
	back bool
	v    uint32
	k    int
}

// fill writes numbers of every count of bits till nothing is left, and now and then one that has no room.
func fill(t *testing.T, r *rand.Rand, n int, side func(i int) bool) (*Pad, *plain, []written) {
	t.Helper()
	p, want := newPad(t, n), newPlain(n)
	var list []written
	for i := 0; want.left() > 0; i++ {
		back, k := side(i), (i*7+r.Intn(3))%33
		v := uint32(r.Uint64() & (1<<k - 1))
		w := want.write(back, v, k)
		if e := write(p, back, v, k); e != w {
			t.Fatalf("P5.1: %d in %d bits of %d left: error %d, want %d", v, k, want.left(), e, w)
		}
		if w == api.OK {
			list = append(list, written{back, v, k})
		}
	}
	return p, want, list
}

func TestWrittenIsRead(t *testing.T) {
	r := rand.New(rand.NewSource(53))
	for _, side := range sides {
		for _, n := range []int{0, 1, 2, 4, 5, 63, 511, 512} {
			for range 20 {
				p, want, list := fill(t, r, n, side.back)
				padIs(t, p, want.bytes(), 0)
				x := newEye(t, p.Bytes())
				front, back := 0, 0
				for i, c := range list {
					if v, e := read(x, c.back, c.k); v != c.v || e != api.OK {
						t.Fatalf("P5.3: %s, %d bytes: number %d: %x in %d bits, want %x, error %d", side.name, n, i, v, c.k, c.v, e)
					}
					if c.back {
						back += c.k
					} else {
						front += c.k
					}
					eyeIs(t, x, front, back, 8*n-front-back)
				}
				eyeIs(t, x, want.front, want.back, 0)
			}
		}
	}
}

// The ends don't wait for one another: all of one is read ahead of the first of the other.
func TestEndsAreReadApart(t *testing.T) {
	r := rand.New(rand.NewSource(54))
	for _, first := range []bool{false, true} {
		for range 50 {
			p, _, list := fill(t, r, 100, inTurns)
			x := newEye(t, p.Bytes())
			for _, back := range []bool{first, !first} {
				for i, c := range list {
					if c.back != back {
						continue
					}
					if v, e := read(x, back, c.k); v != c.v || e != api.OK {
						t.Fatalf("P5.3: back %v: number %d: %x in %d bits, want %x, error %d", back, i, v, c.k, c.v, e)
					}
				}
			}
		}
	}
}

// Bits that nobody wrote are 0, and are there to be read.
func TestMiddleIsZero(t *testing.T) {
	p := newPad(t, 6)
	p.Front(0x1ff, 9)
	p.Back(0x1fff, 13)
	padIs(t, p, []byte{0xff, 0x80, 0, 0, 0x1f, 0xff}, 26)
	x := newEye(t, p.Bytes())
	x.Front(9)
	x.Back(13)
	if v, e := x.Front(26); v != 0 || e != api.OK {
		t.Errorf("P5.3: the middle: %x, error %d", v, e)
	}
}
