package logs

import (
	"math"
	"math/big"
	"math/rand"
	"slices"
	"sort"
	"testing"

	"psaltery/api"
)

const greatest = math.MaxUint64

// edges are 0, 1, small numbers, squares and powers of two with the numbers beside them, and the greatest ones, each once and in order.
func edges() []uint64 {
	list := []uint64{greatest - 2, greatest - 1, greatest}
	for n := range uint64(70) {
		list = append(list, n)
	}
	for _, root := range []uint64{9, 10, 255, 256, 1000, 4095, 65535, 65536, 65537, 1<<31 - 1, 1 << 31, 1<<31 + 1, 1<<32 - 2, 1<<32 - 1} {
		square := root * root
		list = append(list, square-1, square, square+1)
	}
	for s := 1; s < 64; s++ {
		p := uint64(1) << s
		list = append(list, p-1, p, p+1)
	}
	slices.Sort(list)
	return slices.Compact(list)
}

// some draws numbers of every size from a fixed seed, so that a failure comes again.
func some(count int) []uint64 {
	r := rand.New(rand.NewSource(3))
	list := make([]uint64, count)
	for i := range list {
		list[i] = r.Uint64() >> r.Intn(64)
	}
	return list
}

func wide(n uint64) *big.Int { return new(big.Int).SetUint64(n) }

func TestRoot(t *testing.T) {
	for n, want := range map[uint64]uint32{
		0: 0, 1: 1, 2: 1, 3: 1, 4: 2, 8: 2, 9: 3, 99: 9, 100: 10, 101: 10,
		1<<62 - 1: 1<<31 - 1, 1 << 62: 1 << 31, 1 << 63: 3037000499,
		(1<<32 - 1) * (1<<32 - 1): 1<<32 - 1, (1<<32-1)*(1<<32-1) - 1: 1<<32 - 2, greatest: 1<<32 - 1,
	} {
		if root := Root(n); root != want {
			t.Errorf("P2.1: Root(%d): %d, not %d", n, root, want)
		}
	}
	for _, n := range append(edges(), some(5000)...) {
		if root, want := Root(n), new(big.Int).Sqrt(wide(n)); wide(uint64(root)).Cmp(want) != 0 {
			t.Errorf("P2.1: Root(%d): %d, not %v", n, root, want)
		}
	}
}

// TestRootOfSquares takes a square, and what lies just below it, all over the roots there are.
func TestRootOfSquares(t *testing.T) {
	for k := uint64(1); k < 1<<32; k += 1<<15 - 3 {
		if root := Root(k * k); uint64(root) != k {
			t.Fatalf("P2.1: Root(%d): %d, not %d", k*k, root, k)
		}
		if root := Root(k*k - 1); uint64(root) != k-1 {
			t.Fatalf("P2.1: Root(%d): %d, not %d", k*k-1, root, k-1)
		}
	}
}

func TestBits(t *testing.T) {
	for n, want := range map[uint64]int{0: 0, 1: 1, 2: 2, 3: 2, 4: 3, 255: 8, 256: 9, 1 << 31: 32, 1<<32 - 1: 32, 1 << 32: 33, 1<<63 - 1: 63, 1 << 63: 64, greatest: 64} {
		if k := Bits(n); k != want {
			t.Errorf("P2.1: Bits(%d): %d, not %d", n, k, want)
		}
	}
	for _, n := range append(edges(), some(1000)...) {
		if k := Bits(n); k != wide(n).BitLen() {
			t.Errorf("P2.1: Bits(%d): %d, not %d", n, k, wide(n).BitLen())
		}
	}
}

// plainLog goes by the chapter's words, one doubling or halving after the other, without any bound on the size.
func plainLog(n uint64) int32 {
	least, most, x := big.NewInt(1<<30), big.NewInt(1<<31), wide(n)
	for x.Cmp(least) < 0 {
		x.Lsh(x, 1)
	}
	for x.Cmp(most) >= 0 {
		x.Rsh(x, 1)
	}
	rest := int32(0)
	for value := int32(128); value > 0; value /= 2 {
		x.Mul(x, x)
		x.Quo(x, least)
		if x.Cmp(most) >= 0 {
			rest += value
			x.Rsh(x, 1)
		}
	}
	return 256*int32(wide(n).BitLen()-1) + rest
}

func TestLog(t *testing.T) {
	for n, want := range map[uint64]int32{1: 0, 2: 256, 3: 405, 4: 512, 5: 594, 10: 850, 255: 2046, 256: 2048, 257: 2049, 1 << 40: 10240, 1 << 63: 63 * 256, greatest: 63*256 + 255} {
		if q, e := Log(n); q != want || e != api.OK {
			t.Errorf("P2.2: Log(%d): %d, %d, not %d", n, q, e, want)
		}
	}
	for s := range 64 {
		if q, e := Log(1 << s); q != int32(256*s) || e != api.OK {
			t.Errorf("P2.2: Log of 2 to the power of %d: %d, %d", s, q, e)
		}
	}
	for _, n := range append(edges(), some(5000)...) {
		if n == 0 {
			continue
		}
		if q, e := Log(n); q != plainLog(n) || e != api.OK {
			t.Errorf("P2.2: Log(%d): %d, %d, not %d", n, q, e, plainLog(n))
		}
	}
}

// TestLogAtItsBorders takes, for each rest there is, the least number of 31 bits that has it, and those beside it: there a single rest that isn't cut off would be seen.
func TestLogAtItsBorders(t *testing.T) {
	const least = 1 << 30
	for rest := range int32(256) {
		border := least + sort.Search(least-1, func(i int) bool { return plainLog(uint64(least+i)) >= 30*256+rest })
		for n := border - 2; n <= border+2; n++ {
			if q, e := Log(uint64(n)); q != plainLog(uint64(n)) || e != api.OK {
				t.Errorf("P2.2: Log(%d): %d, %d, not %d", n, q, e, plainLog(uint64(n)))
			}
		}
	}
}

// TestLogNearTheTrueOne holds Log against the library's logarithm: it is never above it, and at most one part below, beside what halving loses.
func TestLogNearTheTrueOne(t *testing.T) {
	for _, n := range append(edges(), some(5000)...) {
		if n == 0 {
			continue
		}
		q, _ := Log(n)
		if away := 256*math.Log2(float64(n)) - float64(q); away < -1e-6 || away > 1+1e-3 {
			t.Errorf("P2.2: Log(%d): %d is %f parts from the true one", n, q, away)
		}
	}
}

func TestLogOfNone(t *testing.T) {
	if q, e := Log(0); q != 0 || e != api.ErrArg {
		t.Errorf("P2.2: Log(0): %d, %d", q, e)
	}
}

// plainExp goes by the chapter's words, without any bound on the size; the roots stand here once more, so that a wrong one is seen.
func plainExp(q int32) *big.Int {
	e := int(math.Floor(float64(q) / 256))
	f := int(q) - 256*e
	y, one := big.NewInt(1<<30), big.NewInt(1<<30)
	value := 128
	for _, root := range []int64{1518500249, 1276901416, 1170923761, 1121280435, 1097253708, 1085434105, 1079572135, 1076653033} {
		if f >= value {
			f -= value
			y.Quo(y.Mul(y, big.NewInt(root)), one)
		}
		value /= 2
	}
	if e >= 14 {
		return y.Lsh(y, uint(e-14))
	}
	half := new(big.Int).Lsh(big.NewInt(1), uint(13-e))
	return y.Rsh(y.Add(y, half), uint(14-e))
}

func TestExp(t *testing.T) {
	for q, want := range map[int32]uint64{
		0: 65536, 1: 65714, 128: 92682, 255: 130718, 256: 131072, -1: 65359, -256: 32768, -128: 46341,
		-4096: 1, -4095: 1, -3947: 1, -3946: 2, -3840: 2, 14 * 256: 1 << 30, 7680: 1 << 46,
	} {
		if y, e := Exp(q); y != want || e != api.OK {
			t.Errorf("P2.3: Exp(%d): %d, %d, not %d", q, y, e, want)
		}
	}
	for q := int32(-4096); q <= 7680; q++ {
		if y, e := Exp(q); wide(y).Cmp(plainExp(q)) != 0 || e != api.OK {
			t.Errorf("P2.3: Exp(%d): %d, %d, not %v", q, y, e, plainExp(q))
		}
	}
}

// TestExpNearTheTrueOne holds Exp against the library's powers: what is cut off along the way and the last rounding are all that may lie between.
func TestExpNearTheTrueOne(t *testing.T) {
	for q := int32(-4096); q <= 7680; q++ {
		y, _ := Exp(q)
		want := math.Exp2(float64(q)/256 + 16)
		if away := math.Abs(float64(y) - want); away > 0.5+want*0x1p-26 {
			t.Errorf("P2.3: Exp(%d): %d is %f from the true one", q, y, away)
		}
	}
}

func TestExpBeyond(t *testing.T) {
	for _, q := range []int32{-4097, -4098, 7681, 7682, -1 << 20, 1 << 20, math.MinInt32, math.MinInt32 + 1, math.MaxInt32 - 1, math.MaxInt32} {
		if y, e := Exp(q); y != 0 || e != api.ErrArg {
			t.Errorf("P2.3: Exp(%d): %d, %d", q, y, e)
		}
	}
}

func TestLogNeverFalls(t *testing.T) {
	list := append(edges(), some(20000)...)
	for n := range uint64(1 << 14) {
		list = append(list, n, greatest-n, 1<<32+n)
	}
	slices.Sort(list)
	last := int32(0)
	for _, n := range list {
		if n == 0 {
			continue
		}
		q, _ := Log(n)
		if q < last {
			t.Fatalf("P2.4: Log(%d): %d, but %d of a number that isn't above", n, q, last)
		}
		last = q
	}
	if last == 0 {
		t.Error("P2.4: Log doesn't grow")
	}
}

func TestExpGrows(t *testing.T) {
	last := uint64(1)
	for q := int32(-4096); q <= 7680; q++ {
		y, _ := Exp(q)
		if y < last {
			t.Fatalf("P2.4: Exp(%d): %d, but %d of the one before", q, y, last)
		}
		if y == last && Bits(y) >= 16 {
			t.Errorf("P2.4: Exp(%d): %d again, with 16 bits or more", q, y)
		}
		last = y
	}
}

// TestLogOfExp asks for q again; the 16 bits behind Exp's point are 16 whole logs.
func TestLogOfExp(t *testing.T) {
	asked := 0
	for q := int32(-4096); q <= 7680; q++ {
		y, _ := Exp(q)
		if Bits(y) < 16 {
			continue
		}
		asked++
		back, e := Log(y)
		if away := back - 16*256 - q; e != api.OK || away < -2 || away > 2 {
			t.Errorf("P2.4: Log of Exp(%d): %d parts off, %d", q, away, e)
		}
	}
	if asked != 7680+256+1 {
		t.Errorf("P2.4: Exp has 16 bits or more %d times", asked)
	}
}
