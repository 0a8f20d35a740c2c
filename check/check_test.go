package check

import (
	"bytes"
	"math"
	"math/big"
	mathbits "math/bits"
	"math/rand"
	"testing"

	"psaltery/api"
)

var widths = []int{8, 16, 24}

var badWidths = []int{0, -8, -16, -24, -1, 1, 7, 9, 12, 15, 17, 23, 25, 32, 64, 264, 1<<32 + 8, 1<<32 + 16, 1<<32 + 24, math.MinInt, math.MinInt + 8, math.MaxInt}

// known is what the chapter says of each width, the pattern with the bit that doubling drops.
func known(w int) (start, divisor int64) {
	switch w {
	case 8:
		return 15, 1<<8 + 29
	case 16:
		return 65535, 1<<16 + 4129
	}
	return 5592405, 1<<24 + 1627
}

// restOf is the sum as the rest of one great division without carries: the starting value ahead of the bits, and w bits of 0 behind them.
func restOf(w int, b []byte, n int) uint32 {
	start, divisor := known(w)
	all := new(big.Int).SetBytes(b)
	all.Rsh(all, uint(8*len(b)-n))
	all.Lsh(all, uint(w))
	ahead := new(big.Int).Lsh(big.NewInt(start), uint(n))
	all.Xor(all, ahead)
	d, moved := big.NewInt(divisor), new(big.Int)
	for all.BitLen() > w {
		all.Xor(all, moved.Lsh(d, uint(all.BitLen()-w-1)))
	}
	return uint32(all.Uint64())
}

// sealedOf is b as one great number, and the rest behind it.
func sealedOf(w int, b []byte) []byte {
	all := new(big.Int).SetBytes(b)
	all.Lsh(all, uint(w))
	all.Or(all, big.NewInt(int64(restOf(w, b, 8*len(b)))))
	return all.FillBytes(make([]byte, len(b)+w/8))
}

// blocks are no bytes, single ones, runs, all values in order, and others of every length up to some.
func blocks() [][]byte {
	r := rand.New(rand.NewSource(61))
	every := make([]byte, 256)
	for i := range every {
		every[i] = byte(i)
	}
	list := [][]byte{nil, {}, every, []byte("123456789"), make([]byte, 40), bytes.Repeat([]byte{255}, 40)}
	for i := range every {
		list = append(list, every[i:i+1])
	}
	for n := 2; n <= 40; n++ {
		b := make([]byte, n)
		r.Read(b)
		list = append(list, b)
	}
	long := make([]byte, 600)
	r.Read(long)
	return append(list, long)
}

func sumIs(t *testing.T, w int, b []byte, n int, want uint32) {
	t.Helper()
	if s, e := Bits(w, b, n); s != want || e != api.OK {
		t.Fatalf("P6.1: Bits(%d, %x, %d): %x, want %x, error %d", w, b, n, s, want, e)
	}
}

func ofIs(t *testing.T, w int, b []byte, want uint32) {
	t.Helper()
	if s, e := Of(w, b); s != want || e != api.OK {
		t.Fatalf("P6.1: Of(%d, %x): %x, want %x, error %d", w, b, s, want, e)
	}
}

func seal(t *testing.T, w int, b []byte) []byte {
	t.Helper()
	s, e := Seal(w, b)
	if e != api.OK {
		t.Fatalf("P6.2: Seal(%d, %x): error %d", w, b, e)
	}
	return s
}

func opensAs(t *testing.T, w int, sealed, want []byte) {
	t.Helper()
	if b, e := Open(w, sealed); !bytes.Equal(b, want) || e != api.OK {
		t.Fatalf("P6.2: Open(%d, %x): %x, want %x, error %d", w, sealed, b, want, e)
	}
}

func opensNot(t *testing.T, w int, spoilt []byte) {
	t.Helper()
	if b, e := Open(w, spoilt); len(b) != 0 || e != api.ErrCheck {
		t.Fatalf("P6.2: Open(%d, %x): %x, error %d", w, spoilt, b, e)
	}
}

// The sums are the chapter's, or reckoned by hand bit for bit.
func TestKnownSums(t *testing.T) {
	for _, w := range widths {
		start, _ := known(w)
		ofIs(t, w, nil, uint32(start))
		ofIs(t, w, []byte{}, uint32(start))
	}
	ofIs(t, 8, nil, 15)
	ofIs(t, 16, []byte("123456789"), 10673)
	for _, x := range []struct {
		w     int
		first byte
		sums  []uint32
	}{
		{8, 0b10110000, []uint32{0x0f, 0x03, 0x06, 0x11, 0x3f, 0x7e, 0xfc, 0xe5, 0xd7}},
		{16, 0b11010000, []uint32{0xffff, 0xfffe, 0xfffc, 0xefd9, 0xdfb2}},
		{24, 0b00010000, []uint32{0x555555, 0xaaaaaa, 0x55530f, 0xaaa61e, 0x554c3c}},
	} {
		for n, want := range x.sums {
			sumIs(t, x.w, []byte{x.first}, n, want)
		}
	}
}

// A well-known sum of 24 bits goes through bytes, and tells itself, from the lowest bit on: turned round it is the chapter's.
func TestKnownSumTurnedRound(t *testing.T) {
	b := []byte("123456789")
	for i, x := range b {
		b[i] = mathbits.Reverse8(x)
	}
	ofIs(t, 24, b, mathbits.Reverse32(0xc25a56)>>8)
}

func TestEverySum(t *testing.T) {
	for _, w := range widths {
		for _, b := range blocks() {
			keep := bytes.Clone(b)
			ofIs(t, w, b, restOf(w, b, 8*len(b)))
			if len(b) <= 40 {
				for n := 0; n <= 8*len(b); n++ {
					sumIs(t, w, b, n, restOf(w, b, n))
				}
			}
			if !bytes.Equal(b, keep) {
				t.Fatalf("P6.1: %x was changed to %x", keep, b)
			}
		}
	}
}

// At the edges of n in a great block, and behind n nothing matters.
func TestBitsEdges(t *testing.T) {
	list := blocks()
	long := list[len(list)-1]
	for _, w := range widths {
		for _, n := range []int{0, 1, 7, 8, 9, 2047, 2048, 2049, 8*len(long) - 9, 8*len(long) - 8, 8*len(long) - 1, 8 * len(long)} {
			sumIs(t, w, long, n, restOf(w, long, n))
			other := bytes.Clone(long)
			for i := n; i < 8*len(other); i++ {
				turn(other, i)
			}
			sumIs(t, w, other, n, restOf(w, long, n))
		}
		sumIs(t, w, nil, 0, restOf(w, nil, 0))
		sumIs(t, w, []byte{}, 0, restOf(w, nil, 0))
		sumIs(t, w, []byte{0xff}, 0, restOf(w, nil, 0))
	}
}

// Bits of whole bytes alone are Of those bytes.
func TestBitsAndOfAgree(t *testing.T) {
	for _, w := range widths {
		for _, b := range blocks() {
			for n := range len(b) + 1 {
				s, e := Of(w, b[:n])
				if e != api.OK {
					t.Fatalf("P6.1: Of(%d, %x): error %d", w, b[:n], e)
				}
				sumIs(t, w, b, 8*n, s)
			}
		}
	}
}

func TestWrongWidths(t *testing.T) {
	for _, w := range badWidths {
		for _, b := range [][]byte{nil, {}, {1}, {15}, {255, 255}, {0x55, 0x55, 0x55}, []byte("123456789"), make([]byte, 300)} {
			if s, e := Of(w, b); s != 0 || e != api.ErrArg {
				t.Errorf("P6.1: Of(%d, %x): %x, error %d", w, b, s, e)
			}
			for _, n := range []int{0, 1, 8, 8 * len(b), 8*len(b) + 1, -1, math.MinInt, math.MaxInt} {
				if s, e := Bits(w, b, n); s != 0 || e != api.ErrArg {
					t.Errorf("P6.1: Bits(%d, %x, %d): %x, error %d", w, b, n, s, e)
				}
			}
			if s, e := Seal(w, b); len(s) != 0 || e != api.ErrArg {
				t.Errorf("P6.2: Seal(%d, %x): %x, error %d", w, b, s, e)
			}
			if s, e := Open(w, b); len(s) != 0 || e != api.ErrArg {
				t.Errorf("P6.2: Open(%d, %x): %x, error %d", w, b, s, e)
			}
		}
	}
}

func TestWrongCounts(t *testing.T) {
	// What lies behind a block's end, within its capacity, is none of its bits.
	room := make([]byte, 64)
	for _, w := range widths {
		for _, b := range [][]byte{nil, {}, {1}, room[:0], room[:1], room[:63], room} {
			for _, n := range []int{-1, -2, -8, -1 << 32, math.MinInt, math.MinInt + 1, 8*len(b) + 1, 8*len(b) + 8, 1 << 32, 1<<32 + 1, 1 << 61, math.MaxInt - 7, math.MaxInt} {
				if s, e := Bits(w, b, n); s != 0 || e != api.ErrArg {
					t.Errorf("P6.1: Bits(%d, %d bytes, %d): %x, error %d", w, len(b), n, s, e)
				}
			}
		}
	}
}

func TestKnownSeals(t *testing.T) {
	for _, x := range []struct {
		w    int
		b    string
		want string
	}{
		{8, "", "\x0f"}, {16, "", "\xff\xff"}, {24, "", "\x55\x55\x55"},
		{16, "123456789", "123456789\x29\xb1"},
		{8, "\xb0", "\xb0\xd7"},
	} {
		if s := seal(t, x.w, []byte(x.b)); string(s) != x.want {
			t.Errorf("P6.2: Seal(%d, %q): %q, want %q", x.w, x.b, s, x.want)
		}
		opensAs(t, x.w, []byte(x.want), []byte(x.b))
	}
}

func TestSealAndOpen(t *testing.T) {
	for _, w := range widths {
		for _, b := range blocks() {
			keep := bytes.Clone(b)
			s := seal(t, w, b)
			if want := sealedOf(w, b); !bytes.Equal(s, want) {
				t.Fatalf("P6.2: Seal(%d, %x): %x, want %x", w, b, s, want)
			}
			opensAs(t, w, s, b)
			if !bytes.Equal(b, keep) || !bytes.Equal(s, sealedOf(w, b)) {
				t.Fatalf("P6.2: what was handed in was changed: %x, %x", b, s)
			}
			opensAs(t, w, seal(t, w, s), s)
		}
	}
}

// Too few bytes for a sum, just enough for one, and every sum that is another one.
func TestOpenEdges(t *testing.T) {
	for _, w := range widths {
		start := sealedOf(w, nil)
		for n := range w / 8 {
			opensNot(t, w, start[:n])
			opensNot(t, w, make([]byte, n))
		}
		opensNot(t, w, nil)
		opensAs(t, w, start, nil)
		for d := 1; d < 1<<w; d += max(1, 1<<w>>17) {
			other := bytes.Clone(start)
			for i := range other {
				other[i] ^= byte(d >> (8 * i))
			}
			opensNot(t, w, other)
		}
	}
}

// A seal of one width is none of another, and no bytes stand for their sum in another order.
func TestOpenOfOtherSeals(t *testing.T) {
	b := []byte("123456789")
	for _, w := range widths {
		for _, v := range widths {
			if v != w {
				opensNot(t, v, seal(t, w, b))
			}
		}
	}
	opensNot(t, 16, []byte("123456789\xb1\x29"))
	opensNot(t, 16, []byte("\x29\xb1123456789"))
}

// roomy is b with so many bytes behind it, within its capacity, and all of them.
func roomy(b []byte, n int) (short, all []byte) {
	all = append(bytes.Clone(b), bytes.Repeat([]byte{0xee}, n)...)
	return all[:len(b)], all
}

func spoil(b []byte) {
	b = b[:cap(b)]
	for i := range b {
		b[i] ^= 0xff
	}
}

func TestSealIsNewMemory(t *testing.T) {
	for _, w := range widths {
		for _, b := range blocks() {
			given, all := roomy(b, 16)
			keep, want := bytes.Clone(all), sealedOf(w, b)
			first, second := seal(t, w, given), seal(t, w, given)
			if !bytes.Equal(all, keep) {
				t.Fatalf("P6.2: Seal wrote into what was handed in: %x", all)
			}
			spoil(first)
			if !bytes.Equal(all, keep) || !bytes.Equal(second, want) {
				t.Fatalf("P6.2: what Seal told lies in %x or in %x", all, second)
			}
			spoil(all)
			if !bytes.Equal(second, want) {
				t.Fatalf("P6.2: what Seal told changed to %x", second)
			}
		}
	}
}

func TestOpenIsNewMemory(t *testing.T) {
	for _, w := range widths {
		for _, b := range blocks() {
			given, all := roomy(sealedOf(w, b), 16)
			keep := bytes.Clone(all)
			first, e := Open(w, given)
			second, f := Open(w, given)
			if e != api.OK || f != api.OK || !bytes.Equal(all, keep) {
				t.Fatalf("P6.2: Open: errors %d, %d; handed in %x", e, f, all)
			}
			spoil(first)
			_ = append(first, 1, 2, 3)
			if !bytes.Equal(all, keep) || !bytes.Equal(second, b) {
				t.Fatalf("P6.2: what Open told lies in %x or in %x", all, second)
			}
			spoil(all)
			if !bytes.Equal(second, b) {
				t.Fatalf("P6.2: what Open told changed to %x", second)
			}
		}
	}
}

// A last byte cut off, or a byte put behind, is told, but where that byte is 0: then by the chapter's words the sum of what stands ahead stands there.
func TestCutAndLonger(t *testing.T) {
	for _, w := range widths {
		for _, b := range blocks() {
			s := seal(t, w, b)
			last := len(s) - 1
			if len(b) > 0 && s[last] == 0 {
				opensAs(t, w, s[:last], b[:len(b)-1])
			} else {
				opensNot(t, w, s[:last])
			}
			opensAs(t, w, append(bytes.Clone(s), 0), s[:len(b)+1])
			for x := 1; x < 256; x++ {
				opensNot(t, w, append(bytes.Clone(s), byte(x)))
			}
		}
	}
}

// turn turns a bit, counted from the highest of the first byte on.
func turn(b []byte, i int) { b[i/8] ^= 0x80 >> (i % 8) }

// turnThese turns the bits of a pattern, its lowest one at place i.
func turnThese(b []byte, i int, pattern uint32) {
	for ; pattern != 0; pattern >>= 1 {
		if pattern&1 == 1 {
			turn(b, i)
		}
		i++
	}
}

func turnedIsTold(t *testing.T, w int, sealed []byte, i int, pattern uint32) {
	t.Helper()
	turnThese(sealed, i, pattern)
	if b, e := Open(w, sealed); len(b) != 0 || e != api.ErrCheck {
		t.Fatalf("P6.3: width %d, %x with %b turned from %d on: %x, error %d", w, sealed, pattern, i, b, e)
	}
	turnThese(sealed, i, pattern)
}

func TestOpenOfSeal(t *testing.T) {
	for _, w := range widths {
		for _, b := range blocks() {
			if got, e := Open(w, seal(t, w, b)); !bytes.Equal(got, b) || e != api.OK {
				t.Fatalf("P6.3: width %d: %x of %x, error %d", w, got, b, e)
			}
		}
	}
}

func TestOneBitTurned(t *testing.T) {
	for _, w := range widths {
		for _, b := range blocks() {
			s := seal(t, w, b)
			for i := range 8 * len(s) {
				turnedIsTold(t, w, s, i, 1)
			}
		}
	}
}

// All of one run of bits turned, or its ends alone, of every length up to w, at every place.
func TestRunsTurned(t *testing.T) {
	for _, w := range widths {
		for _, b := range [][]byte{nil, {0}, {0xa5}, []byte("123456789"), make([]byte, 12), bytes.Repeat([]byte{255}, 20)} {
			s := seal(t, w, b)
			for n := 1; n <= w; n++ {
				for i := 0; i+n <= 8*len(s); i++ {
					turnedIsTold(t, w, s, i, 1<<n-1)
					turnedIsTold(t, w, s, i, 1<<(n-1)|1)
				}
			}
		}
	}
}

// Any of w bits side by side: all patterns of 8 and 16 bits, many of 24, at every place.
func TestPatternsTurned(t *testing.T) {
	for _, w := range widths {
		step := 1
		if w == 24 {
			step = 257
		}
		s := seal(t, w, []byte{0x39, 0xc6})
		for i := 0; i+w <= 8*len(s); i++ {
			for p := 1; p < 1<<w; p += step {
				turnedIsTold(t, w, s, i, uint32(p))
			}
			turnedIsTold(t, w, s, i, 1<<w-1)
			_, divisor := known(w)
			turnedIsTold(t, w, s, i, uint32(divisor)&(1<<w-1))
		}
	}
}

// The bound is sharp: w + 1 bits side by side can be turned so that the sum still fits.
func TestPatternBeyondTheBound(t *testing.T) {
	for _, w := range widths {
		_, divisor := known(w)
		b := []byte("123456789")
		s := seal(t, w, b)
		turnThese(s, 7, mathbits.Reverse32(uint32(divisor))>>(31-w))
		opensAs(t, w, s, s[:len(b)])
		if bytes.Equal(s[:len(b)], b) {
			t.Errorf("P6.3: width %d: nothing was turned", w)
		}
	}
}
