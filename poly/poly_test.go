package poly

import (
	"math"
	"math/rand"
	"slices"
	"testing"

	"psaltery/api"
	"psaltery/bank"
	"psaltery/wave"
)

const (
	low16, high16 = math.MinInt16, math.MaxInt16
	low32, high32 = math.MinInt32, math.MaxInt32
)

var bothBands = []int{4, 8}

var badBands = []int{0, 1, 2, 3, 5, 6, 7, 9, 12, 16, 32, 40, 64, 128, -1, -4, -8, 1 << 32, 1<<32 + 4, 1<<61 + 4, 1<<61 + 8, -1<<61 + 4, math.MinInt, math.MinInt + 4, math.MinInt + 8, math.MaxInt, math.MaxInt - 3, math.MaxInt - 7}

// plain is what both models work by: the chapter's words one by one, over all that ever came.
type plain struct {
	t *testing.T
	m int
	h []int16
}

func newPlain(t *testing.T, m int) plain {
	t.Helper()
	h, e := bank.New().Filter(m)
	if e != api.OK {
		t.Fatalf("Filter(%d): error %d", m, e)
	}
	return plain{t, m, h}
}

func (p plain) filter(i int) int64 { return int64(p.h[i]) }

func (p plain) wave(a, b int) int64 {
	p.t.Helper()
	c, e := wave.Cosine(a*b, 8*p.m)
	if e != api.OK {
		p.t.Fatalf("Cosine(%d, %d): error %d", a*b, 8*p.m, e)
	}
	return int64(c)
}

// rounded is the greatest whole number not above n divided by 2^s and one half. No sum of these tests has more than 52 bits.
func rounded(n int64, s int) int64 { return (n + 1<<(s-1)) >> s }

func saturated(n int64, bits int) int64 {
	most := int64(1)<<(bits-1) - 1
	return min(max(n, -most-1), most)
}

// plainSplitter has all samples, the oldest ahead, and drops none.
type plainSplitter struct {
	plain
	all []int16
}

func (p *plainSplitter) x(i int) int64 {
	if i >= len(p.all) {
		return 0
	}
	return int64(p.all[len(p.all)-1-i])
}

func (p *plainSplitter) feed(x []int16) []int32 {
	p.all = append(p.all, x...)
	var y []int64
	for j := range 2 * p.m {
		sum := int64(0)
		for k, sign := range []int64{1, -1, 1, -1, 1} {
			at := j + 2*p.m*k
			sum += sign * p.x(at) * p.filter(at)
		}
		y = append(y, saturated(rounded(-sum, 14), 32))
	}
	by := map[int]int{4: 17, 8: 18}[p.m]
	var list []int32
	for i := range p.m {
		sum := int64(0)
		for j := range y {
			sum += y[j] * p.wave(2*i+1, 2*j-p.m)
		}
		list = append(list, int32(saturated(rounded(sum, by), 32)))
	}
	return list
}

// plainJoiner has the numbers of all calls, the oldest ahead, and drops none.
type plainJoiner struct {
	plain
	calls [][]int64
}

func (p *plainJoiner) v(i int) int64 {
	call, place := i/(2*p.m), i%(2*p.m)
	if call >= len(p.calls) {
		return 0
	}
	return p.calls[len(p.calls)-1-call][place]
}

func (p *plainJoiner) feed(s []int32) []int16 {
	var block []int64
	for k := range 2 * p.m {
		sum := int64(0)
		for i := range p.m {
			sum += int64(s[i]) * p.wave(2*i+1, 2*k+p.m)
		}
		block = append(block, saturated(rounded(sum, 15), 32))
	}
	p.calls = append(p.calls, block)
	var list []int16
	for j := range p.m {
		sum := int64(0)
		for i, sign := range []int64{1, -1, 1, -1, 1} {
			sum += sign * p.v(4*p.m*i+j) * p.filter(2*p.m*i+j)
			sum += sign * p.v(4*p.m*i+3*p.m+j) * p.filter(2*p.m*i+p.m+j)
		}
		list = append(list, int16(saturated(saturated(rounded(sum, 14), 32), 16)))
	}
	return list
}

func newSplitter(t *testing.T, b *bank.Bank, m int) *Splitter {
	t.Helper()
	s, e := NewSplitter(b, m)
	if e != api.OK || s == nil {
		t.Fatalf("P8.1: NewSplitter of %d bands: %v, error %d", m, s, e)
	}
	return s
}

func newJoiner(t *testing.T, b *bank.Bank, m int) *Joiner {
	t.Helper()
	j, e := NewJoiner(b, m)
	if e != api.OK || j == nil {
		t.Fatalf("P8.1: NewJoiner of %d bands: %v, error %d", m, j, e)
	}
	return j
}

func split(t *testing.T, s *Splitter, x []int16) []int32 {
	t.Helper()
	list, e := s.Feed(x)
	if e != api.OK || len(list) != len(x) {
		t.Fatalf("P8.2: Feed(%v): %v, error %d", x, list, e)
	}
	return list
}

func join(t *testing.T, j *Joiner, s []int32) []int16 {
	t.Helper()
	list, e := j.Feed(s)
	if e != api.OK || len(list) != len(s) {
		t.Fatalf("P8.3: Feed(%v): %v, error %d", s, list, e)
	}
	return list
}

func splits(t *testing.T, s *Splitter, x []int16, want []int32) {
	t.Helper()
	if list := split(t, s, x); !slices.Equal(list, want) {
		t.Fatalf("P8.2: Feed(%v): %v, not %v", x, list, want)
	}
}

func joins(t *testing.T, j *Joiner, s []int32, want []int16) {
	t.Helper()
	if list := join(t, j, s); !slices.Equal(list, want) {
		t.Fatalf("P8.3: Feed(%v): %v, not %v", s, list, want)
	}
}

// splitsAll holds every block's answer against the model, from a new splitter on.
func splitsAll(t *testing.T, m int, blocks [][]int16) {
	t.Helper()
	s, want := newSplitter(t, bank.New(), m), plainSplitter{plain: newPlain(t, m)}
	for _, x := range blocks {
		splits(t, s, x, want.feed(x))
	}
}

func joinsAll(t *testing.T, m int, blocks [][]int32) {
	t.Helper()
	j, want := newJoiner(t, bank.New(), m), plainJoiner{plain: newPlain(t, m)}
	for _, s := range blocks {
		joins(t, j, s, want.feed(s))
	}
}

// anySamples are blocks of samples of both signs, loud ones and soft ones.
func anySamples(r *rand.Rand, m, n int) [][]int16 {
	list := make([][]int16, n)
	for i := range list {
		soft := r.Intn(16)
		for range m {
			list[i] = append(list[i], int16(r.Uint32())>>soft)
		}
	}
	return list
}

// anyNumbers are blocks of numbers of both signs, from such as samples split into to such as none do.
func anyNumbers(r *rand.Rand, m, n int) [][]int32 {
	list := make([][]int32, n)
	for i := range list {
		soft := r.Intn(32)
		for range m {
			list[i] = append(list[i], int32(r.Uint32())>>soft)
		}
	}
	return list
}

// softNumbers are blocks of which no joined sample need be saturated.
func softNumbers(r *rand.Rand, m, n int) [][]int32 {
	list := make([][]int32, n)
	for i := range list {
		for range m {
			list[i] = append(list[i], int32(r.Intn(4000)-2000))
		}
	}
	return list
}

func zeros[T int16 | int32](m, n int) [][]T {
	list := make([][]T, n)
	for i := range list {
		list[i] = make([]T, m)
	}
	return list
}

// lone is a block of nothing but 0 beside one number.
func lone[T int16 | int32](m, place int, n T) []T {
	list := make([]T, m)
	list[place] = n
	return list
}

// The numbers stand here as the chapters' words make them, reckoned apart from this program, so that no fault of another layer hides here.
func TestKnownSplits(t *testing.T) {
	for m, rows := range map[int][][]int32{
		4: {{30, 16, -4, -17}, {31, -72, 51, -19}, {1469, 935, 86, -413}, {548, -2456, 2031, -829}, {17236, 10626, 1563, -3745}, {-6935, 405, -3780, 1805}, {-7004, 13194, 10190, 9520}, {3887, -12935, 5060, -1431}, {-5922, 13913, 10466, 9735}, {6528, -13905, 5759, -1686}, {-3922, 13888, 10514, 9816}},
		8: {{29, 4, -18, -17, 2, 13, 5, -9}, {9, -15, 40, 24, -69, -10, 41, -10}, {701, 415, -166, -426, -38, 277, 78, -152}, {1083, -1458, 2175, 356, -1855, -195, 960, -188}, {6765, 5648, 543, -6315, -316, 3672, -173, -1042}, {-6192, 19555, 6962, -4728, -4599, -3893, -2088, 6122}, {1370, 13190, 5391, -292, -7607, -5237, 2239, 3738}, {1669, 13908, 6056, 560, -7062, -5328, 1807, 3339}, {3272, 15653, 3882, 1705, -6384, -7509, 4206, 2328}, {-3307, 12090, 7556, 10386, 2274, -3970, 613, -6316}, {471, 5609, 12908, 7823, 29, 2286, -4514, -3115}},
	} {
		s := newSplitter(t, bank.New(), m)
		for n, want := range rows {
			x := make([]int16, m)
			for i := range x {
				x[i] = int16((7919*(n*m+i)+1234)%65536 - 32768)
			}
			splits(t, s, x, want)
		}
	}
}

func TestKnownJoins(t *testing.T) {
	for m, rows := range map[int][][]int16{
		4: {{0, -1, 0, 33}, {0, -8, 55, -30}, {0, -647, 30, 1177}, {0, 563, -875, -896}, {0, -8894, -493, 15794}, {0, 7766, 9508, -14483}, {71, -17372, 5525, 8358}, {-361, 4249, 2291, -14237}, {1398, -17094, -3566, 2077}, {-7149, -1229, -8115, -7269}, {20196, 11632, 2267, -1949}},
		8: {{0, 0, -3, 2, 0, -9, 68, 20}, {0, -71, 68, -12, 85, -12, 28, 151}, {0, -236, -1107, 292, -17, -413, 2292, 535}, {71, -875, -921, 303, -1377, -104, -212, 4247}, {-361, -3047, -16892, 3012, 336, -3213, 23619, 7811}, {1327, -13984, -5575, 1168, 15159, -4245, 31395, -1962}, {-6787, -3651, 5516, -13802, -4019, 13185, 21570, -17704}, {18798, 5819, 12728, -16237, -2599, 8672, -24938, -11180}, {-2064, -486, 23712, -12626, 10634, 6728, -8807, -7754}, {-18507, -6385, 18073, 41, -8668, -10741, -18815, -2414}, {-7824, -21919, -15074, 12723, -8854, -21011, -2789, 3818}},
	} {
		j := newJoiner(t, bank.New(), m)
		for n, want := range rows {
			s := make([]int32, m)
			for i := range s {
				s[i] = int32((104729*(n*m+i)+4321)%16384 - 8192)
			}
			joins(t, j, s, want)
		}
	}
}

func TestExample(t *testing.T) {
	splits(t, newSplitter(t, bank.New(), 4), []int16{0, 0, 0, 0}, []int32{0, 0, 0, 0})
}

func TestSplitsAny(t *testing.T) {
	for _, m := range bothBands {
		for _, n := range []int{1, 2, 9, 10, 11, 12, 20, 21, 300} {
			splitsAll(t, m, anySamples(rand.New(rand.NewSource(int64(81+n))), m, n))
		}
	}
}

func TestJoinsAny(t *testing.T) {
	for _, m := range bothBands {
		for _, n := range []int{1, 2, 9, 10, 11, 12, 20, 21, 300} {
			r := rand.New(rand.NewSource(int64(82 + n)))
			joinsAll(t, m, anyNumbers(r, m, n))
			joinsAll(t, m, softNumbers(r, m, n))
		}
	}
}

// One sample in each place, the others 0, and then nothing but 0 till it is gone, and beyond.
func TestOneSampleGoesBy(t *testing.T) {
	for _, m := range bothBands {
		for place := range m {
			for _, n := range []int16{low16, low16 + 1, high16, -1, 1, 8192, -8192, 24576, -24576} {
				splitsAll(t, m, append([][]int16{lone(m, place, n)}, zeros[int16](m, 12)...))
			}
		}
	}
}

func TestOneNumberGoesBy(t *testing.T) {
	for _, m := range bothBands {
		for place := range m {
			for _, n := range []int32{low32, low32 + 1, high32, high32 - 1, -1, 1, 3, -3, 8192, -8192, 16384, -16384, 32767, -32768} {
				joinsAll(t, m, append([][]int32{lone(m, place, n)}, zeros[int32](m, 12)...))
			}
		}
	}
}

// loudest are blocks of one end alone, of both ends in turns and in any order.
func loudest[T int16 | int32](r *rand.Rand, m, n int, least, most T) [][][]T {
	pick := []func(block, place int) bool{
		func(int, int) bool { return true },
		func(int, int) bool { return false },
		func(_, place int) bool { return place%2 == 0 },
		func(_, place int) bool { return place < m/2 },
		func(block, _ int) bool { return block%2 == 0 },
		func(block, _ int) bool { return block%4 < 2 },
		func(block, place int) bool { return (block+place)%2 == 0 },
		func(int, int) bool { return r.Intn(2) == 0 },
		func(int, int) bool { return r.Intn(2) == 0 },
		func(int, int) bool { return r.Intn(9) == 0 },
	}
	runs := make([][][]T, len(pick))
	for i, high := range pick {
		runs[i] = zeros[T](m, n)
		for block, list := range runs[i] {
			for place := range list {
				list[place] = least
				if high(block, place) {
					list[place] = most
				}
			}
		}
	}
	return runs
}

func TestLoudestSamples(t *testing.T) {
	r := rand.New(rand.NewSource(83))
	for _, m := range bothBands {
		for _, run := range loudest[int16](r, m, 25, low16, high16) {
			splitsAll(t, m, append(run, zeros[int16](m, 12)...))
		}
		splitsAll(t, m, loudestFor(t, m))
	}
}

// loudestFor are samples each of which has the sign at which the filter and the first band's wave make the most of it.
func loudestFor(t *testing.T, m int) [][]int16 {
	p := newPlain(t, m)
	blocks := zeros[int16](m, 10)
	for age := range 10 * m {
		sign := p.filter(age) * p.wave(1, 2*(age%(2*m))-m)
		if age/(2*m)%2 == 0 {
			sign = -sign
		}
		blocks[9-age/m][m-1-age%m] = low16
		if sign > 0 {
			blocks[9-age/m][m-1-age%m] = high16
		}
	}
	return blocks
}

// Both ends of 32 bits, in every band: sums beyond 32 bits, and samples beyond 16.
func TestLoudestNumbers(t *testing.T) {
	r := rand.New(rand.NewSource(84))
	for _, m := range bothBands {
		for _, run := range loudest[int32](r, m, 25, low32, high32) {
			joinsAll(t, m, append(run, zeros[int32](m, 12)...))
		}
		for k := range 2 * m {
			joinsAll(t, m, append([][]int32{loudestAt(t, m, k, 1), loudestAt(t, m, k, -1)}, zeros[int32](m, 12)...))
		}
	}
}

// loudestAt are numbers each of which has the sign at which the wave at k makes the most of it.
func loudestAt(t *testing.T, m, k int, sign int64) []int32 {
	p := newPlain(t, m)
	list := make([]int32, m)
	for i := range list {
		list[i] = low32
		if sign*p.wave(2*i+1, 2*k+m) > 0 {
			list[i] = high32
		}
	}
	return list
}

// What is rounded is saturated to 32 bits ahead of the filter, not only at the end: a loud block that is saturated is outweighed by a soft one just where it was, so that the sample itself stands far from both ends.
func TestSaturatedAheadOfTheFilter(t *testing.T) {
	for _, m := range bothBands {
		p := newPlain(t, m)
		// At 3 m / 2 all waves are -32767: m times the same number goes beyond 32 bits.
		soft := (int64(1) << 31) * p.filter(7*m/2) / (int64(m) * p.filter(11*m/2))
		for _, sign := range []int64{1, -1} {
			blocks := slices.Concat([][]int32{slices.Repeat([]int32{int32(sign * soft)}, m)}, zeros[int32](m, 1), [][]int32{slices.Repeat([]int32{int32(saturated(sign<<31, 32))}, m)}, zeros[int32](m, 3))
			j, want := newJoiner(t, bank.New(), m), plainJoiner{plain: p}
			var last []int16
			for _, s := range blocks {
				last = want.feed(s)
				joins(t, j, s, last)
			}
			if last[m/2] == low16 || last[m/2] == high16 {
				t.Fatalf("of %d bands the soft block doesn't outweigh the loud one: %v", m, last)
			}
		}
	}
}

// Halves go upwards, of either sign; the numbers are reckoned by hand.
func TestHalvesGoUpwards(t *testing.T) {
	for _, x := range []struct {
		m, place, blocks int
		n                int16
		want             int32
	}{
		// 27243 times the filter's 19707 are 32768 when rounded; times 23170 that is 5792 and one half.
		{4, 3, 5, -27243, 5793}, {4, 3, 5, 27243, -5792},
		// 28566 times 18794 are 32768; times 12540, 18 bits less, 1567 and one half.
		{8, 5, 5, -28566, 1568}, {8, 5, 5, 28566, -1567},
	} {
		s := newSplitter(t, bank.New(), x.m)
		list := split(t, s, lone(x.m, x.place, x.n))
		for range x.blocks {
			list = split(t, s, make([]int16, x.m))
		}
		if list[0] != x.want {
			t.Errorf("P8.2: %d of %d bands: %d, not %d", x.n, x.m, list[0], x.want)
		}
	}
	for _, m := range bothBands {
		// 11585 times -23170 are -8192; times the filter's 19707 that is -9853 and one half.
		for n, want := range map[int32]int16{11585: -9853, -11585: 9854} {
			j := newJoiner(t, bank.New(), m)
			list := join(t, j, lone(m, 0, n))
			for range 5 {
				list = join(t, j, make([]int32, m))
			}
			if list[0] != want {
				t.Errorf("P8.3: %d of %d bands: %d, not %d", n, m, list[0], want)
			}
		}
	}
}

// The filtered samples' halves go upwards as well, when they are less than nothing: so many of them that the sum over them tells.
func TestFoldedHalves(t *testing.T) {
	r := rand.New(rand.NewSource(85))
	for _, m := range bothBands {
		for range 40 {
			var blocks [][]int16
			for range 14 {
				block := make([]int16, m)
				for i := range block {
					block[i] = int16(r.Intn(7)-3) * 8192
				}
				blocks = append(blocks, block)
			}
			splitsAll(t, m, blocks)
		}
	}
}

func TestWrongBands(t *testing.T) {
	b := bank.New()
	bad := slices.Clone(badBands)
	for m := -200; m <= 200; m++ {
		if m != 4 && m != 8 {
			bad = append(bad, m)
		}
	}
	for _, m := range bad {
		if s, e := NewSplitter(b, m); s != nil || e != api.ErrArg {
			t.Errorf("P8.1: NewSplitter of %d bands: error %d", m, e)
		}
		if j, e := NewJoiner(b, m); j != nil || e != api.ErrArg {
			t.Errorf("P8.1: NewJoiner of %d bands: error %d", m, e)
		}
	}
	for _, m := range append(bad, bothBands...) {
		if s, e := NewSplitter(nil, m); s != nil || e != api.ErrNil {
			t.Errorf("P8.1: NewSplitter of no bank, %d bands: error %d", m, e)
		}
		if j, e := NewJoiner(nil, m); j != nil || e != api.ErrNil {
			t.Errorf("P8.1: NewJoiner of no bank, %d bands: error %d", m, e)
		}
	}
}

// wrongLists are lists that have not m numbers.
func wrongLists[T int16 | int32](m int) [][]T {
	list := [][]T{nil, {}, make([]T, m, 4*m)[:0]}
	for _, n := range []int{1, m - 2, m - 1, m + 1, m + 2, 2 * m, 10 * m, 20 * m, 12 - m} {
		list = append(list, slices.Repeat([]T{12345}, n))
	}
	return list
}

// A wrong call changes nothing: what is told behind it is as if it had not been.
func TestSplitterRefuses(t *testing.T) {
	for _, m := range bothBands {
		s, want := newSplitter(t, bank.New(), m), plainSplitter{plain: newPlain(t, m)}
		for _, x := range anySamples(rand.New(rand.NewSource(86)), m, 25) {
			for _, wrong := range wrongLists[int16](m) {
				if list, e := s.Feed(wrong); e != api.ErrArg || len(list) != 0 {
					t.Fatalf("P8.2: Feed of %d samples, %d bands: %v, error %d", len(wrong), m, list, e)
				}
			}
			splits(t, s, x, want.feed(x))
		}
	}
}

func TestJoinerRefuses(t *testing.T) {
	for _, m := range bothBands {
		j, want := newJoiner(t, bank.New(), m), plainJoiner{plain: newPlain(t, m)}
		for _, s := range softNumbers(rand.New(rand.NewSource(87)), m, 25) {
			for _, wrong := range wrongLists[int32](m) {
				if list, e := j.Feed(wrong); e != api.ErrArg || len(list) != 0 {
					t.Fatalf("P8.3: Feed of %d numbers, %d bands: %v, error %d", len(wrong), m, list, e)
				}
			}
			joins(t, j, s, want.feed(s))
		}
	}
}

func TestOfNil(t *testing.T) {
	var s *Splitter
	var j *Joiner
	s.Reset()
	j.Reset()
	for _, m := range bothBands {
		for _, x := range append(wrongLists[int16](m), make([]int16, m)) {
			if list, e := s.Feed(x); e != api.ErrNil || len(list) != 0 {
				t.Errorf("P8.2: nil.Feed of %d samples: %v, error %d", len(x), list, e)
			}
		}
		for _, x := range append(wrongLists[int32](m), make([]int32, m)) {
			if list, e := j.Feed(x); e != api.ErrNil || len(list) != 0 {
				t.Errorf("P8.3: nil.Feed of %d numbers: %v, error %d", len(x), list, e)
			}
		}
	}
}

func TestResetIsAsNew(t *testing.T) {
	for _, m := range bothBands {
		r := rand.New(rand.NewSource(88))
		s, j := newSplitter(t, bank.New(), m), newJoiner(t, bank.New(), m)
		for _, n := range []int{0, 1, 2, 9, 10, 11, 40} {
			for _, x := range anySamples(r, m, n) {
				split(t, s, x)
			}
			for _, x := range anyNumbers(r, m, n) {
				join(t, j, x)
			}
			s.Reset()
			j.Reset()
			wantSplit, wantJoin := plainSplitter{plain: newPlain(t, m)}, plainJoiner{plain: newPlain(t, m)}
			for _, x := range anySamples(r, m, 12) {
				splits(t, s, x, wantSplit.feed(x))
			}
			for _, x := range softNumbers(r, m, 12) {
				joins(t, j, x, wantJoin.feed(x))
			}
			s.Reset()
			s.Reset()
			j.Reset()
			j.Reset()
			splits(t, s, make([]int16, m), make([]int32, m))
			joins(t, j, make([]int32, m), make([]int16, m))
		}
	}
}

// Ten calls forget whatever came ahead of them; nine don't.
func TestTenCallsForget(t *testing.T) {
	for _, m := range bothBands {
		r := rand.New(rand.NewSource(89))
		s, j := newSplitter(t, bank.New(), m), newJoiner(t, bank.New(), m)
		for _, n := range []int{1, 2, 9, 10, 11, 30} {
			newS, newJ := newSplitter(t, bank.New(), m), newJoiner(t, bank.New(), m)
			for _, x := range slices.Repeat([][]int16{slices.Repeat([]int16{low16}, m)}, n) {
				split(t, s, x)
			}
			for _, x := range slices.Repeat([][]int32{lone[int32](m, 0, 5000)}, n) {
				join(t, j, x)
			}
			for i, x := range anySamples(r, m, 20) {
				if same := slices.Equal(split(t, s, x), split(t, newS, x)); same != (i >= 9) {
					t.Errorf("P8.4: a splitter of %d bands, call %d: as a new one: %v", m, i+1, same)
				}
			}
			for i, x := range softNumbers(r, m, 20) {
				if same := slices.Equal(join(t, j, x), join(t, newJ, x)); same != (i >= 9) {
					t.Errorf("P8.4: a joiner of %d bands, call %d: as a new one: %v", m, i+1, same)
				}
			}
		}
	}
}

func TestNothingComesOfNothing(t *testing.T) {
	for _, m := range bothBands {
		s, j := newSplitter(t, bank.New(), m), newJoiner(t, bank.New(), m)
		for range 30 {
			splits(t, s, make([]int16, m), make([]int32, m))
			joins(t, j, make([]int32, m), make([]int16, m))
		}
		// The last call that knows of a block is the tenth.
		split(t, s, slices.Repeat([]int16{high16}, m))
		join(t, j, lone[int32](m, 0, high32))
		for call := 2; call < 30; call++ {
			bands, samples := split(t, s, make([]int16, m)), join(t, j, make([]int32, m))
			if silent := slices.Equal(bands, make([]int32, m)); silent != (call > 10) {
				t.Errorf("P8.4: a splitter of %d bands, call %d: %v", m, call, bands)
			}
			if silent := slices.Equal(samples, make([]int16, m)); silent != (call > 10) {
				t.Errorf("P8.4: a joiner of %d bands, call %d: %v", m, call, samples)
			}
		}
	}
}

// spoil changes a list to the end of its capacity: what lies behind its length is nobody else's either.
func spoil[T int16 | int32](list []T) {
	list = list[:cap(list)]
	for i := range list {
		list[i] = 12345
	}
}

func TestListsAreTheCallers(t *testing.T) {
	for _, m := range bothBands {
		r := rand.New(rand.NewSource(90))
		s, wantSplit := newSplitter(t, bank.New(), m), plainSplitter{plain: newPlain(t, m)}
		for _, x := range anySamples(r, m, 25) {
			// What lies behind the samples, within their capacity, is none of them.
			room := append(slices.Clone(x), 99, 98, 97)
			told := split(t, s, room[:m])
			if want := wantSplit.feed(x); !slices.Equal(told, want) {
				t.Fatalf("P8.2: Feed(%v): %v, not %v", x, told, want)
			}
			if !slices.Equal(room, append(slices.Clone(x), 99, 98, 97)) {
				t.Fatalf("R4: Feed made %v of %v", room, x)
			}
			spoil(room)
			spoil(told)
		}
		j, wantJoin := newJoiner(t, bank.New(), m), plainJoiner{plain: newPlain(t, m)}
		for _, x := range softNumbers(r, m, 25) {
			room := append(slices.Clone(x), 99, 98, 97)
			told := join(t, j, room[:m])
			if want := wantJoin.feed(x); !slices.Equal(told, want) {
				t.Fatalf("P8.3: Feed(%v): %v, not %v", x, told, want)
			}
			if !slices.Equal(room, append(slices.Clone(x), 99, 98, 97)) {
				t.Fatalf("R4: Feed made %v of %v", room, x)
			}
			spoil(room)
			spoil(told)
		}
	}
}

// What was told once stays as it was, whatever is fed afterwards.
func TestToldStays(t *testing.T) {
	for _, m := range bothBands {
		r := rand.New(rand.NewSource(91))
		s, j := newSplitter(t, bank.New(), m), newJoiner(t, bank.New(), m)
		bands, samples := split(t, s, slices.Repeat([]int16{high16}, m)), join(t, j, slices.Repeat([]int32{high32}, m))
		keepBands, keepSamples := slices.Clone(bands), slices.Clone(samples)
		for i := range 15 {
			split(t, s, anySamples(r, m, 1)[0])
			join(t, j, anyNumbers(r, m, 1)[0])
			if i == 12 {
				s.Reset()
				j.Reset()
			}
			if !slices.Equal(bands, keepBands) || !slices.Equal(samples, keepSamples) {
				t.Fatal("R4: what Feed told changed with a later call")
			}
		}
	}
}

// Splitters and joiners of one bank, of as many bands and of others, know nothing of one another.
func TestOfOneBank(t *testing.T) {
	b := bank.New()
	r := rand.New(rand.NewSource(92))
	type pair struct {
		s     *Splitter
		j     *Joiner
		split plainSplitter
		join  plainJoiner
	}
	var pairs []*pair
	for _, m := range []int{4, 8, 4, 8} {
		pairs = append(pairs, &pair{newSplitter(t, b, m), newJoiner(t, b, m), plainSplitter{plain: newPlain(t, m)}, plainJoiner{plain: newPlain(t, m)}})
	}
	for range 100 {
		p := pairs[r.Intn(len(pairs))]
		m := p.s.bands
		switch r.Intn(12) {
		case 0:
			p.s.Reset()
			p.split.all = nil
		case 1:
			p.j.Reset()
			p.join.calls = nil
		default:
			x, n := anySamples(r, m, 1)[0], softNumbers(r, m, 1)[0]
			splits(t, p.s, x, p.split.feed(x))
			joins(t, p.j, n, p.join.feed(n))
		}
	}
	for _, m := range bothBands {
		filter, _ := b.Filter(m)
		turn, _ := b.Turn(8 * m)
		wantFilter, _ := bank.New().Filter(m)
		wantTurn, _ := bank.New().Turn(8 * m)
		if !slices.Equal(filter, wantFilter) || !slices.Equal(turn, wantTurn) {
			t.Errorf("R4: the bank's tables of %d bands were changed", m)
		}
	}
}

// A bank makes just the two tables of a number of bands, once for all who split and join by it.
func TestTablesOfTheBank(t *testing.T) {
	b := bank.New()
	for _, m := range bothBands {
		before := b.Made()
		for range 3 {
			newSplitter(t, b, m)
			newJoiner(t, b, m)
		}
		if b.Made() != before+2 {
			t.Errorf("P8.1: of %d bands %d tables were made", m, b.Made()-before)
		}
	}
}

// A slow wave comes back 9 m + 1 samples later, nearly as great; so does one of each band's middle.
func TestComesBack(t *testing.T) {
	for _, m := range bothBands {
		for band := range m {
			s, j := newSplitter(t, bank.New(), m), newJoiner(t, bank.New(), m)
			var in, out []int16
			for range 40 {
				x := make([]int16, m)
				for i := range x {
					c, _ := wave.Cosine((2*band+1)*(len(in)+i), 4*m)
					x[i] = c / 4
				}
				in, out = append(in, x...), append(out, join(t, j, split(t, s, x))...)
			}
			late := 9*m + 1
			for i := 20 * m; i+late < len(out); i++ {
				if d := int(in[i]) - int(out[i+late]); d > 100 || d < -100 {
					t.Fatalf("P8.3: of %d bands, band %d, sample %d: %d, %d", m, band, i, in[i], out[i+late])
				}
			}
		}
	}
}
