package fix

import (
	"math"
	"math/big"
	"math/rand"
	"slices"
	"testing"

	"psaltery/api"
)

// edges64 are numbers at and beside the ends of every kind, and the halves around 0.
func edges64() []int64 {
	list := []int64{0, 1, -1, 2, -2, 3, -3, 5, -5, 6, -6, 7, -7, 12345, -54321}
	for _, n := range []int64{math.MinInt16, math.MaxInt16, math.MinInt32, math.MaxInt32} {
		list = append(list, n-1, n, n+1)
	}
	list = append(list, math.MinInt64, math.MinInt64+1, math.MaxInt64-1, math.MaxInt64)
	for s := 1; s <= 62; s++ {
		half := int64(1) << (s - 1)
		list = append(list, half-1, half, half+1, -half-1, -half, -half+1, 3*(half>>1), -3*(half>>1))
	}
	return list
}

func edges32() []int32 {
	list := []int32{0, 1, -1, 2, -2, 3, -3, 100, -100, 46341, -46341}
	for s := 1; s < 31; s++ {
		p := int32(1) << s
		list = append(list, p-1, p, p+1, -p-1, -p, -p+1)
	}
	return append(list, math.MinInt32, math.MinInt32+1, math.MaxInt32-1, math.MaxInt32)
}

func edges16() []int16 {
	return []int16{0, 1, -1, 2, -2, 3, -3, 1 << 13, 1 << 14, -1 << 14, math.MinInt16, math.MinInt16 + 1, math.MaxInt16 - 1, math.MaxInt16}
}

// some draws numbers of every size from a fixed seed, so that a failure comes again.
func some(count int) []int64 {
	r := rand.New(rand.NewSource(1))
	list := make([]int64, count)
	for i := range list {
		list[i] = int64(r.Uint64()) >> r.Intn(64)
	}
	return list
}

// wideRound rounds without any bound on the size: floor((2n + 2^s) / 2^(s+1)).
func wideRound(n *big.Int, s int) *big.Int {
	sum := new(big.Int).Lsh(n, 1)
	sum.Add(sum, new(big.Int).Lsh(big.NewInt(1), uint(s)))
	return sum.Rsh(sum, uint(s+1))
}

func wideSat(n *big.Int, bits uint) int64 {
	most := new(big.Int).Lsh(big.NewInt(1), bits-1)
	least := new(big.Int).Neg(most)
	most.Sub(most, big.NewInt(1))
	if n.Cmp(least) < 0 {
		return least.Int64()
	}
	if n.Cmp(most) > 0 {
		return most.Int64()
	}
	return n.Int64()
}

func wideProduct(a, b int64) *big.Int { return new(big.Int).Mul(big.NewInt(a), big.NewInt(b)) }

func TestSaturate(t *testing.T) {
	for _, n := range append(edges64(), some(2000)...) {
		if got, want := Sat16(n), wideSat(big.NewInt(n), 16); int64(got) != want {
			t.Errorf("P1.1: Sat16(%d): %d, not %d", n, got, want)
		}
		if got, want := Sat32(n), wideSat(big.NewInt(n), 32); int64(got) != want {
			t.Errorf("P1.1: Sat32(%d): %d, not %d", n, got, want)
		}
	}
	for _, x := range []struct{ n, in16, in32 int64 }{
		{0, 0, 0}, {32767, 32767, 32767}, {32768, 32767, 32768}, {-32768, -32768, -32768}, {-32769, -32768, -32769},
		{1<<31 - 1, 32767, 1<<31 - 1}, {1 << 31, 32767, 1<<31 - 1}, {-1 << 31, -32768, -1 << 31}, {-1<<31 - 1, -32768, -1 << 31},
		{math.MaxInt64, 32767, 1<<31 - 1}, {math.MinInt64, -32768, -1 << 31},
	} {
		if a, b := Sat16(x.n), Sat32(x.n); int64(a) != x.in16 || int64(b) != x.in32 {
			t.Errorf("P1.1: Sat16, Sat32 of %d: %d, %d", x.n, a, b)
		}
	}
}

func TestClip(t *testing.T) {
	const low, high = math.MinInt64, math.MaxInt64
	for _, x := range []struct{ n, least, most, want int64 }{
		{5, 1, 9, 5}, {5, 5, 5, 5}, {5, 7, 9, 7}, {5, 1, 3, 3}, {1, 1, 3, 1}, {3, 1, 3, 3}, {-5, -3, 3, -3},
		{low, low, high, low}, {high, low, high, high}, {low, 0, 1, 0}, {high, 0, 1, 1}, {0, high, high, high}, {0, low, low, low},
		// Crossed bounds: the lower one is asked first.
		{5, 9, 1, 9}, {0, 9, 1, 9}, {9, 9, 1, 1}, {10, 9, 1, 1}, {0, high, low, high}, {high, high, low, low},
	} {
		if got := Clip(x.n, x.least, x.most); got != x.want {
			t.Errorf("P1.1: Clip(%d, %d, %d): %d, not %d", x.n, x.least, x.most, got, x.want)
		}
	}
}

func TestRound(t *testing.T) {
	for _, x := range []struct {
		n    int64
		s    int
		want int64
	}{
		{3, 1, 2}, {-3, 1, -1}, {1, 1, 1}, {-1, 1, 0}, {5, 2, 1}, {6, 2, 2}, {-6, 2, -1}, {-7, 2, -2}, {7, 0, 7}, {-7, 0, -7},
		{9, -1, 9}, {9, math.MinInt, 9}, {math.MaxInt64, 0, math.MaxInt64}, {math.MinInt64, -5, math.MinInt64},
		{math.MaxInt64, 1, 1 << 62}, {math.MinInt64, 1, -1 << 62}, {math.MaxInt64, 62, 2}, {math.MinInt64, 62, -2},
		{math.MaxInt64, 63, 2}, {math.MinInt64, 64, -2}, {math.MaxInt64, math.MaxInt, 2},
		{1 << 61, 62, 1}, {1<<61 - 1, 62, 0}, {-1 << 61, 62, 0}, {-1<<61 - 1, 62, -1}, {3 << 61, 62, 2}, {-3 << 61, 62, -1},
	} {
		if got := Round(x.n, x.s); got != x.want {
			t.Errorf("P1.1: Round(%d, %d): %d, not %d", x.n, x.s, got, x.want)
		}
	}
	for _, n := range append(edges64(), some(300)...) {
		for s := -2; s <= 66; s++ {
			want := wideRound(big.NewInt(n), min(max(s, 0), 62))
			if got := Round(n, s); got != want.Int64() {
				t.Fatalf("P1.1: Round(%d, %d): %d, not %v", n, s, got, want)
			}
		}
	}
}

func TestAddSub(t *testing.T) {
	const low, high = math.MinInt32, math.MaxInt32
	for _, x := range []struct{ a, b, sum, rest int32 }{
		{3, 4, 7, -1}, {high, 1, high, high - 1}, {high, high, high, 0}, {low, 1, low + 1, low}, {low, low, low, 0},
		{low, high, -1, low}, {high, low, -1, high}, {0, low, low, high}, {-1, low, low, high}, {high, -1, high - 1, high},
	} {
		if a, b := Add(x.a, x.b), Sub(x.a, x.b); a != x.sum || b != x.rest {
			t.Errorf("P1.1: Add, Sub of %d, %d: %d, %d", x.a, x.b, a, b)
		}
	}
	for _, a := range edges32() {
		for _, b := range edges32() {
			sum, rest := int64(a)+int64(b), int64(a)-int64(b)
			if got := Add(a, b); int64(got) != wideSat(big.NewInt(sum), 32) {
				t.Fatalf("P1.1: Add(%d, %d): %d", a, b, got)
			}
			if got := Sub(a, b); int64(got) != wideSat(big.NewInt(rest), 32) {
				t.Fatalf("P1.1: Sub(%d, %d): %d", a, b, got)
			}
		}
	}
}

func TestMul15(t *testing.T) {
	for _, x := range []struct {
		a    int32
		b    int16
		want int32
	}{
		{100, 1 << 14, 50}, {1, 1 << 14, 1}, {-1, 1 << 14, 0}, {3, 1 << 14, 2}, {-3, 1 << 14, -1}, {1, 1<<14 - 1, 0},
		{math.MinInt32, math.MinInt16, math.MaxInt32}, {math.MaxInt32, math.MinInt16, -math.MaxInt32},
		{math.MinInt32, math.MaxInt16, -2147418112}, {math.MaxInt32, math.MaxInt16, 2147418111}, {math.MaxInt32, 0, 0},
	} {
		if got := Mul15(x.a, x.b); got != x.want {
			t.Errorf("P1.2: Mul15(%d, %d): %d, not %d", x.a, x.b, got, x.want)
		}
	}
	for _, a := range edges32() {
		for _, b := range edges16() {
			want := wideSat(wideRound(wideProduct(int64(a), int64(b)), 15), 32)
			if got := Mul15(a, b); int64(got) != want {
				t.Fatalf("P1.2: Mul15(%d, %d): %d, not %d", a, b, got, want)
			}
		}
	}
}

func TestMul31(t *testing.T) {
	for _, x := range []struct{ a, b, want int32 }{
		{1 << 30, 1 << 30, 1 << 29}, {1, 1 << 30, 1}, {-1, 1 << 30, 0}, {3, 1 << 30, 2}, {-3, 1 << 30, -1},
		{math.MinInt32, math.MinInt32, math.MaxInt32}, {math.MinInt32, math.MaxInt32, -math.MaxInt32},
		{math.MaxInt32, math.MaxInt32, math.MaxInt32 - 1}, {math.MinInt32, 0, 0},
	} {
		if got := Mul31(x.a, x.b); got != x.want {
			t.Errorf("P1.2: Mul31(%d, %d): %d, not %d", x.a, x.b, got, x.want)
		}
	}
	for _, a := range edges32() {
		for _, b := range edges32() {
			want := wideSat(wideRound(wideProduct(int64(a), int64(b)), 31), 32)
			if got := Mul31(a, b); int64(got) != want {
				t.Fatalf("P1.2: Mul31(%d, %d): %d, not %d", a, b, got, want)
			}
		}
	}
}

func TestDotErrors(t *testing.T) {
	long, longer := api.MaxTaps, api.MaxTaps+1
	for _, x := range []struct {
		a, b, s int
		want    api.Errno
	}{
		{0, 0, 0, api.OK}, {0, 0, 62, api.OK}, {1, 1, 62, api.OK}, {long, long, 0, api.OK}, {long, long, 62, api.OK},
		{1, 0, 1, api.ErrArg}, {0, 1, 1, api.ErrArg}, {2, 1, 1, api.ErrArg}, {1, 1, -1, api.ErrArg}, {1, 1, 63, api.ErrArg},
		{0, 0, -1, api.ErrArg}, {0, 0, 63, api.ErrArg}, {1, 1, math.MinInt, api.ErrArg}, {1, 1, math.MaxInt, api.ErrArg},
		{longer, longer, 0, api.ErrLong}, {longer, longer, 62, api.ErrLong},
		// ErrArg is asked ahead of ErrLong.
		{longer, long, 1, api.ErrArg}, {long, longer, 1, api.ErrArg}, {longer, longer, 63, api.ErrArg}, {longer, longer, -1, api.ErrArg},
	} {
		a, b := slices.Repeat([]int32{1 << 20}, x.a), slices.Repeat([]int16{1 << 10}, x.b)
		n, e := Dot(a, b, x.s)
		if e != x.want {
			t.Errorf("P1.2: Dot of %d and %d numbers, %d: error %d, not %d", x.a, x.b, x.s, e, x.want)
		}
		if e != api.OK && n != 0 {
			t.Errorf("P1.2: Dot of %d and %d numbers, %d: %d beside an error", x.a, x.b, x.s, n)
		}
	}
	for _, s := range []int{0, 1, 62} {
		if n, e := Dot(nil, nil, s); n != 0 || e != api.OK {
			t.Errorf("P1.2: Dot(nil, nil, %d): %d, %d", s, n, e)
		}
		if n, e := Dot(nil, []int16{}, s); n != 0 || e != api.OK {
			t.Errorf("P1.2: Dot(nil, empty, %d): %d, %d", s, n, e)
		}
	}
	if _, e := Dot([]int32{4}, nil, 1); e != api.ErrArg {
		t.Errorf("P1.2: Dot of one and nil: %d", e)
	}
}

func TestDotSums(t *testing.T) {
	const low, high = math.MinInt32, math.MaxInt32
	for _, x := range []struct {
		a    []int32
		b    []int16
		s    int
		want int32
	}{
		{[]int32{4, 6}, []int16{3, -1}, 1, 3}, {[]int32{4, 6}, []int16{3, -1}, 0, 6}, {[]int32{3}, []int16{1}, 1, 2}, {[]int32{-3}, []int16{1}, 1, -1},
		// Rounded once, at the end: three halves are one and a half.
		{[]int32{1, 1, 1}, []int16{1, 1, 1}, 1, 2}, {[]int32{1, 1}, []int16{1, 1}, 1, 1},
		// Saturated once, at the end: what goes beyond comes back.
		{[]int32{high, high, low, low}, []int16{2, 2, 2, 2}, 0, -4}, {[]int32{high, high}, []int16{1, 1}, 0, high}, {[]int32{low, low}, []int16{1, 1}, 0, low},
	} {
		if n, e := Dot(x.a, x.b, x.s); n != x.want || e != api.OK {
			t.Errorf("P1.2: Dot(%v, %v, %d): %d, %d, not %d", x.a, x.b, x.s, n, e, x.want)
		}
	}
}

// TestDotWidest takes the greatest sums there are, 2^62 and what lies next to it.
func TestDotWidest(t *testing.T) {
	for _, x := range []struct {
		a    int32
		b    int16
		want [5]int32 // by 0, 31, 32, 61, 62 bits
	}{
		{math.MinInt32, math.MinInt16, [5]int32{math.MaxInt32, math.MaxInt32, 1 << 30, 2, 1}},
		{math.MinInt32, math.MaxInt16, [5]int32{math.MinInt32, -2147418112, -1073709056, -2, -1}},
		{math.MaxInt32, math.MinInt16, [5]int32{math.MinInt32, -2147483647, -1073741823, -2, -1}},
		{math.MaxInt32, math.MaxInt16, [5]int32{math.MaxInt32, 2147418111, 1073709056, 2, 1}},
	} {
		a, b := slices.Repeat([]int32{x.a}, api.MaxTaps), slices.Repeat([]int16{x.b}, api.MaxTaps)
		for i, s := range []int{0, 31, 32, 61, 62} {
			if n, e := Dot(a, b, s); n != x.want[i] || e != api.OK {
				t.Errorf("P1.2: Dot of %d times %d by %d, %d: %d, %d, not %d", api.MaxTaps, x.a, x.b, s, n, e, x.want[i])
			}
		}
	}
}

func TestDotAgainstWide(t *testing.T) {
	r := rand.New(rand.NewSource(2))
	for range 500 {
		count, s := r.Intn(40), r.Intn(63)
		a, b := make([]int32, count), make([]int16, count)
		sum := new(big.Int)
		for i := range a {
			a[i], b[i] = int32(r.Uint32())>>r.Intn(32), int16(r.Uint32())>>r.Intn(16)
			sum.Add(sum, wideProduct(int64(a[i]), int64(b[i])))
		}
		keptA, keptB := slices.Clone(a), slices.Clone(b)
		want := wideSat(wideRound(sum, s), 32)
		if n, e := Dot(a, b, s); int64(n) != want || e != api.OK {
			t.Fatalf("P1.2: Dot(%v, %v, %d): %d, %d, not %d", a, b, s, n, e, want)
		}
		if !slices.Equal(a, keptA) || !slices.Equal(b, keptB) {
			t.Fatal("R4: Dot changed what it was handed")
		}
	}
}

// doublings counts as the chapter says it: one doubling after the other, while the number is an int32.
func doublings(n int32) int {
	for k, wide := 0, int64(n); ; k++ {
		wide *= 2
		if k == 31 || wide < math.MinInt32 || wide > math.MaxInt32 {
			return k
		}
	}
}

func TestSpare(t *testing.T) {
	for n, want := range map[int32]int{
		0: 31, 1: 30, -1: 31, 2: 29, -2: 30, 3: 29, -3: 29, math.MaxInt32: 0, math.MinInt32: 0, math.MinInt32 + 1: 0,
		1 << 30: 0, 1<<30 - 1: 1, -1 << 30: 1, -1<<30 - 1: 0,
	} {
		if k := Spare(n); k != want {
			t.Errorf("P1.3: Spare(%d): %d, not %d", n, k, want)
		}
	}
	for _, n := range edges32() {
		if k := Spare(n); k != doublings(n) {
			t.Errorf("P1.3: Spare(%d): %d, not %d", n, k, doublings(n))
		}
	}
}

// nearHalf tells whether got lies at most one half from n divided by 2^s.
func nearHalf(n *big.Int, s int, got int64) bool {
	away := new(big.Int).Lsh(big.NewInt(got), uint(s))
	away.Sub(away, n).Abs(away).Lsh(away, 1)
	return away.Cmp(new(big.Int).Lsh(big.NewInt(1), uint(s))) <= 0
}

func TestExactWhereNothingSaturates(t *testing.T) {
	for _, n := range append(edges64(), some(500)...) {
		for s := 0; s <= 62; s++ {
			if got := Round(n, s); !nearHalf(big.NewInt(n), s, got) {
				t.Fatalf("P1.4: Round(%d, %d): %d is more than one half away", n, s, got)
			}
		}
		if k := int64(int16(n)); int64(Sat16(k)) != k {
			t.Errorf("P1.4: Sat16(%d) isn't exact", k)
		}
		if k := int64(int32(n)); int64(Sat32(k)) != k {
			t.Errorf("P1.4: Sat32(%d) isn't exact", k)
		}
	}
	for _, a := range edges32() {
		for _, b := range edges16() {
			if got := Mul15(a, b); got != math.MaxInt32 && !nearHalf(wideProduct(int64(a), int64(b)), 15, int64(got)) {
				t.Fatalf("P1.4: Mul15(%d, %d): %d is more than one half away", a, b, got)
			}
		}
		for _, b := range edges32() {
			if got := Mul31(a, b); got != math.MaxInt32 && !nearHalf(wideProduct(int64(a), int64(b)), 31, int64(got)) {
				t.Fatalf("P1.4: Mul31(%d, %d): %d is more than one half away", a, b, got)
			}
		}
	}
}

func TestSpareDoublingsLoseNothing(t *testing.T) {
	for _, n := range edges32() {
		k := Spare(n)
		wide := n
		for range k {
			wide = Add(wide, wide)
		}
		if wide>>k != n || int64(wide) != int64(n)<<k {
			t.Errorf("P1.4: %d doubled %d times: %d", n, k, wide)
		}
		if n != 0 && k < 31 && int64(Add(wide, wide)) == 2*int64(wide) {
			t.Errorf("P1.4: %d may be doubled more than %d times", n, k)
		}
	}
}
