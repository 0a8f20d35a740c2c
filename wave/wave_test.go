package wave

import (
	"math"
	"math/big"
	"math/rand"
	"slices"
	"testing"

	"psaltery/api"
)

// The dens at the chapter's edges that can be, with some odd ones whose quarters aren't whole.
var goodDens = []int{1, 2, 3, 4, 5, 7, 8, 12, 360, 1023, 1<<16 - 1, 1 << 16, 1<<16 + 1, 1<<20 - 1, 1 << 20}

var badDens = []int{0, -1, -4, -1 << 20, math.MinInt, 1<<20 + 1, 1 << 22, 1 << 32, 1<<32 + 8, math.MaxInt}

// plainRest is num modulo den, from 0 on, without any bound on the size.
func plainRest(num, den int) int64 {
	n, d := big.NewInt(int64(num)), big.NewInt(int64(den))
	return new(big.Int).Mod(n, d).Int64()
}

// plainSine follows the chapter's words one by one; num lies from 0 to below den.
func plainSine(num, den int64) int16 {
	const one = 1 << 30
	a := 4 * num
	r := a % den
	var t int64
	switch a / den {
	case 0, 2:
		t = r * one / den
	case 1, 3:
		t = (den - r) * one / den
	}
	u := t * t / one
	p := int64(172272)
	p = 5026995 - p*u/one
	p = 85569306 - p*u/one
	p = 693598668 - p*u/one
	p = 1686629713 - p*u/one
	s := (p*t/one + 1<<14) / (1 << 15)
	if s > 32767 {
		s = 32767
	}
	if a/den >= 2 {
		s = -s
	}
	return int16(s)
}

func plainCosine(num, den int64) int16 {
	return plainSine((4*num+den)%(4*den), 4*den)
}

// nums are an angle at 0, at each quarter and beside it, beyond whole turns, below 0, and at both ends of int.
func nums(den int) []int {
	list := []int{math.MinInt, math.MinInt + 1, math.MinInt + den, math.MaxInt, math.MaxInt - 1, math.MaxInt - den, math.MaxInt/4 + 1, math.MinInt/4 - 1, 1 << 32, -1 << 32, 1<<32 + 1}
	for _, turns := range []int{0, 1, 2, 1000, 1 << 40, -1, -2, -1000, -1 << 40} {
		for quarter := range 5 {
			for beside := -2; beside <= 2; beside++ {
				list = append(list, turns*den+quarter*den/4+beside)
			}
		}
	}
	return list
}

// sineOf and cosineOf tell what is answered, where there must be no error.
func sineOf(t *testing.T, num, den int) int16 {
	t.Helper()
	s, e := Sine(num, den)
	if e != api.OK {
		t.Fatalf("P3.1: Sine(%d, %d): error %d", num, den, e)
	}
	return s
}

func cosineOf(t *testing.T, num, den int) int16 {
	t.Helper()
	c, e := Cosine(num, den)
	if e != api.OK {
		t.Fatalf("P3.2: Cosine(%d, %d): error %d", num, den, e)
	}
	return c
}

func checkAngle(t *testing.T, num, den int) {
	t.Helper()
	rest := plainRest(num, den)
	if got, want := sineOf(t, num, den), plainSine(rest, int64(den)); got != want {
		t.Fatalf("P3.1: Sine(%d, %d): %d, not %d", num, den, got, want)
	}
	if got, want := cosineOf(t, num, den), plainCosine(rest, int64(den)); got != want {
		t.Fatalf("P3.2: Cosine(%d, %d): %d, not %d", num, den, got, want)
	}
}

func TestExamples(t *testing.T) {
	for _, x := range []struct {
		num, den int
		sin, cos int16
	}{
		{1, 8, 23170, 23170}, {1, 4, 32767, 0}, {3, 4, -32767, 0}, {1, 12, 16384, 28378},
		{0, 4, 0, 32767}, {2, 4, 0, -32767}, {4, 4, 0, 32767}, {5, 4, 32767, 0}, {-1, 4, -32767, 0},
		{0, 1, 0, 32767}, {math.MaxInt, 1, 0, 32767}, {math.MinInt, 1, 0, 32767},
		{0, 2, 0, 32767}, {1, 2, 0, -32767}, {math.MaxInt, 2, 0, -32767}, {math.MinInt, 2, 0, 32767},
		{1 << 18, 1 << 20, 32767, 0}, {3 << 18, 1 << 20, -32767, 0}, {1 << 19, 1 << 20, 0, -32767},
	} {
		if got := sineOf(t, x.num, x.den); got != x.sin {
			t.Errorf("P3.1: Sine(%d, %d): %d, not %d", x.num, x.den, got, x.sin)
		}
		if got := cosineOf(t, x.num, x.den); got != x.cos {
			t.Errorf("P3.2: Cosine(%d, %d): %d, not %d", x.num, x.den, got, x.cos)
		}
	}
}

func TestEdges(t *testing.T) {
	for _, den := range goodDens {
		for _, num := range nums(den) {
			checkAngle(t, num, den)
		}
	}
}

func TestSmallTurns(t *testing.T) {
	for den := 1; den <= 300; den++ {
		for num := -den; num <= 2*den; num++ {
			checkAngle(t, num, den)
		}
	}
}

// A division that doesn't let its rest fall is seen at one angle of some 30000 alone: whole great turns are gone through.
func TestGreatTurns(t *testing.T) {
	for _, den := range []int{1 << 20, 1<<20 - 1, 999983} {
		for num := range den {
			if got, want := sineOf(t, num, den), plainSine(int64(num), int64(den)); got != want {
				t.Fatalf("P3.1: Sine(%d, %d): %d, not %d", num, den, got, want)
			}
			if got, want := cosineOf(t, num, den), plainCosine(int64(num), int64(den)); got != want {
				t.Fatalf("P3.2: Cosine(%d, %d): %d, not %d", num, den, got, want)
			}
		}
	}
}

func TestManyAngles(t *testing.T) {
	chance := rand.New(rand.NewSource(3))
	for range 200000 {
		checkAngle(t, int(chance.Uint64()), 1+chance.Intn(1<<20))
	}
}

// The sine is what its name says: a quarter's numbers that were written wrongly here and in the program would be seen.
func TestNearTrueSine(t *testing.T) {
	const den = 99991
	for num := range den {
		sin, cos := math.Sincos(2 * math.Pi * float64(num) / den)
		if d := math.Abs(float64(sineOf(t, num, den)) - 32768*sin); d > 1.5 {
			t.Fatalf("P3.1: Sine(%d, %d) is %f from the true one", num, den, d)
		}
		if d := math.Abs(float64(cosineOf(t, num, den)) - 32768*cos); d > 1.5 {
			t.Fatalf("P3.2: Cosine(%d, %d) is %f from the true one", num, den, d)
		}
	}
}

func TestWrongDens(t *testing.T) {
	for _, den := range badDens {
		for _, num := range []int{0, 1, 3, -1, math.MinInt, math.MaxInt} {
			if s, e := Sine(num, den); s != 0 || e != api.ErrArg {
				t.Errorf("P3.1: Sine(%d, %d): %d, error %d", num, den, s, e)
			}
			if c, e := Cosine(num, den); c != 0 || e != api.ErrArg {
				t.Errorf("P3.2: Cosine(%d, %d): %d, error %d", num, den, c, e)
			}
		}
		checkNoSines(t, den)
	}
	for _, den := range []int{1<<16 + 1, 1<<16 + 2, 1 << 17, 1<<20 - 1, 1 << 20} {
		checkNoSines(t, den)
	}
}

func checkNoSines(t *testing.T, den int) {
	t.Helper()
	if l, e := Sines(den); len(l) != 0 || e != api.ErrArg {
		t.Errorf("P3.2: Sines(%d): %d items, error %d", den, len(l), e)
	}
}

func TestSines(t *testing.T) {
	dens := []int{1<<16 - 1, 1 << 16}
	for den := 1; den <= 100; den++ {
		dens = append(dens, den)
	}
	for _, den := range dens {
		l, e := Sines(den)
		if e != api.OK || len(l) != den {
			t.Fatalf("P3.2: Sines(%d): %d items, error %d", den, len(l), e)
		}
		for i, s := range l {
			if want := plainSine(int64(i), int64(den)); s != want {
				t.Fatalf("P3.2: Sines(%d) at %d: %d, not %d", den, i, s, want)
			}
		}
	}
}

func TestSinesAreTheCallers(t *testing.T) {
	first, _ := Sines(16)
	kept := slices.Clone(first)
	for i := range first {
		first[i] = 77
	}
	if second, _ := Sines(16); !slices.Equal(second, kept) {
		t.Errorf("R4: Sines(16) after its answer was changed: %v, not %v", second, kept)
	}
}

func TestOtherWayRound(t *testing.T) {
	for _, den := range goodDens {
		for _, num := range nums(den) {
			if num == math.MinInt {
				continue
			}
			if a, b := sineOf(t, num, den), sineOf(t, -num, den); a != -b {
				t.Fatalf("P3.3: of %d parts %d: %d, but the other way round %d", den, num, a, b)
			}
		}
	}
}

func TestWholeTurns(t *testing.T) {
	for _, den := range goodDens {
		for i := range 200 {
			num := i * den / 200
			want := sineOf(t, num, den)
			for _, turns := range []int{1, 2, 3, 1 << 20, 1 << 42, -1, -2, -1 << 42} {
				if got := sineOf(t, num+turns*den, den); got != want {
					t.Fatalf("P3.3: of %d parts %d: %d, but %d turns on %d", den, num, want, turns, got)
				}
			}
		}
	}
}

func TestAsManyTimesAsManyParts(t *testing.T) {
	for _, den := range []int{1, 2, 3, 4, 5, 7, 12, 100, 1023, 1 << 10} {
		for num := -den; num <= 2*den; num++ {
			want := sineOf(t, num, den)
			for _, times := range []int{2, 3, 4, 7, 1000, 1 << 20 / den} {
				if got := sineOf(t, num*times, den*times); got != want {
					t.Fatalf("P3.3: %d of %d: %d, but %d times that %d", num, den, want, times, got)
				}
			}
		}
	}
}

func checkSquares(t *testing.T, num, den int) {
	t.Helper()
	s, c := int64(sineOf(t, num, den)), int64(cosineOf(t, num, den))
	if off := s*s + c*c - 1<<30; off > 1<<18 || off < -1<<18 {
		t.Fatalf("P3.3: squares at %d of %d are %d from 2^30", num, den, off)
	}
}

func TestSquares(t *testing.T) {
	for den := 1; den <= 300; den++ {
		for num := range den {
			checkSquares(t, num, den)
		}
	}
	for _, den := range []int{1 << 16, 1<<16 + 1, 1 << 20, 1<<20 - 1} {
		for num := range den {
			checkSquares(t, num, den)
		}
	}
	for _, den := range goodDens {
		for _, num := range nums(den) {
			checkSquares(t, num, den)
		}
	}
}
