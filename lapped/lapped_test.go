package lapped

import (
	"math"
	"math/rand"
	"slices"
	"testing"

	"psaltery/api"
	"psaltery/bank"
	"psaltery/wave"
)

const (
	low16, high16 = math.MinInt16, math.MaxInt16
	low32, high32 = math.MinInt32, math.MaxInt32
)

var allLengths = []int{40, 60, 80, 120}

var badLengths = []int{0, 1, 39, 41, 100, 240, -1, -40, -60, -80, -120, 1 << 32, 1<<32 + 40, 1<<32 + 120, -1<<32 + 40, 1<<61 + 40, 1<<63 - 40, math.MinInt, math.MinInt + 1, math.MinInt + 40, math.MinInt + 80, math.MaxInt, math.MaxInt - 7}

// slopes stand here as the chapters' words make them, reckoned apart from this program, so that no fault of another layer hides here.
var slopes = map[int][]int16{
	40:  {1286, 3851, 6393, 8895, 11342, 13719, 16011, 18205, 20286, 22243, 24062, 25733, 27246, 28590, 29758, 30743, 31538, 32138, 32541, 32743},
	60:  {858, 2571, 4277, 5971, 7650, 9307, 10938, 12540, 14107, 15636, 17121, 18560, 19948, 21281, 22556, 23769, 24917, 25997, 27005, 27939, 28797, 29576, 30274, 30888, 31419, 31863, 32219, 32488, 32667, 32757},
	80:  {643, 1929, 3212, 4490, 5760, 7022, 8274, 9512, 10736, 11943, 13132, 14300, 15447, 16569, 17666, 18736, 19777, 20788, 21766, 22711, 23621, 24494, 25330, 26127, 26883, 27598, 28270, 28899, 29483, 30022, 30514, 30959, 31357, 31706, 32007, 32258, 32459, 32610, 32711, 32762},
	120: {429, 1286, 2143, 2998, 3851, 4702, 5549, 6393, 7232, 8066, 8895, 9717, 10533, 11342, 12142, 12935, 13719, 14493, 15257, 16011, 16754, 17485, 18205, 18912, 19606, 20286, 20953, 21605, 22243, 22865, 23472, 24062, 24636, 25193, 25733, 26255, 26760, 27246, 27713, 28161, 28590, 28999, 29389, 29758, 30107, 30435, 30743, 31029, 31294, 31538, 31760, 31960, 32138, 32295, 32429, 32541, 32631, 32698, 32743, 32765},
}

func plainWindow(n int) []int16 {
	half := slices.Concat(make([]int16, n/4), slopes[n], slices.Repeat([]int16{32767}, n/4))
	back := slices.Clone(half)
	slices.Reverse(back)
	return slices.Concat(half, back)
}

// plain is what both models work by: the chapter's words one by one, over all that ever came.
type plain struct {
	n      int
	window []int16
	waves  [][]int64
}

func newPlain(t *testing.T, n int) plain {
	t.Helper()
	p := plain{n, plainWindow(n), make([][]int64, 2*n)}
	for j := range p.waves {
		for k := range n {
			c, e := wave.Cosine((2*j+1+n)*(2*k+1), 8*n)
			if e != api.OK {
				t.Fatalf("the wave of %d and %d: error %d", j, k, e)
			}
			p.waves[j] = append(p.waves[j], int64(c))
		}
	}
	return p
}

// rounded is the greatest whole number not above v divided by 2^15 and one half. No sum of these tests has more than 54 bits.
func rounded(v int64) int64 { return (v + 1<<14) >> 15 }

func saturated(v int64) int64 { return min(max(v, low32), high32) }

// down is the greatest whole number not above a divided by b: the rest that is left is none below 0.
func down(a, b int64) int64 { return (a - ((a%b)+b)%b) / b }

// plainLapper has all blocks, the oldest ahead, and drops none.
type plainLapper struct {
	plain
	all []int16
}

func (p *plainLapper) feed(x []int16) []int32 {
	p.all = append(p.all, x...)
	two := slices.Concat(make([]int16, p.n), p.all)
	two = two[len(two)-2*p.n:]
	var list []int32
	for k := range p.n {
		sum := int64(0)
		for j, sample := range two {
			sum += rounded(int64(sample)*int64(p.window[j])) * p.waves[j][k]
		}
		list = append(list, int32(saturated(rounded(sum))))
	}
	return list
}

// plainUnlapper has what all calls laid down, the oldest ahead, and drops none.
type plainUnlapper struct {
	plain
	calls [][]int64
}

func (p *plainUnlapper) feed(c []int32) []int32 {
	n := int64(p.n)
	var z []int64
	for j := range 2 * p.n {
		v := int64(0)
		for k, number := range c {
			v += int64(number) * p.waves[j][k]
		}
		y := saturated(down(2*rounded(v)+n/2, n))
		z = append(z, saturated(rounded(y*int64(p.window[j]))))
	}
	before := make([]int64, 2*p.n)
	if len(p.calls) > 0 {
		before = p.calls[len(p.calls)-1]
	}
	p.calls = append(p.calls, z)
	var list []int32
	for j := range p.n {
		list = append(list, int32(saturated(z[j]+before[p.n+j])))
	}
	return list
}

func newLapper(t *testing.T, b *bank.Bank, n int) *Lapper {
	t.Helper()
	l, e := NewLapper(b, n)
	if e != api.OK || l == nil {
		t.Fatalf("P9.1: NewLapper of %d: %v, error %d", n, l, e)
	}
	return l
}

func newUnlapper(t *testing.T, b *bank.Bank, n int) *Unlapper {
	t.Helper()
	u, e := NewUnlapper(b, n)
	if e != api.OK || u == nil {
		t.Fatalf("P9.1: NewUnlapper of %d: %v, error %d", n, u, e)
	}
	return u
}

func lap(t *testing.T, l *Lapper, x []int16) []int32 {
	t.Helper()
	list, e := l.Feed(x)
	if e != api.OK || len(list) != len(x) {
		t.Fatalf("P9.2: Feed(%v): %v, error %d", x, list, e)
	}
	return list
}

func unlap(t *testing.T, u *Unlapper, c []int32) []int32 {
	t.Helper()
	list, e := u.Feed(c)
	if e != api.OK || len(list) != len(c) {
		t.Fatalf("P9.3: Feed(%v): %v, error %d", c, list, e)
	}
	return list
}

func laps(t *testing.T, l *Lapper, x []int16, want []int32) {
	t.Helper()
	if list := lap(t, l, x); !slices.Equal(list, want) {
		t.Fatalf("P9.2: Feed(%v): %v, not %v", x, list, want)
	}
}

func unlaps(t *testing.T, u *Unlapper, c []int32, want []int32) {
	t.Helper()
	if list := unlap(t, u, c); !slices.Equal(list, want) {
		t.Fatalf("P9.3: Feed(%v): %v, not %v", c, list, want)
	}
}

// lapsAll holds every block's answer against the model, from a new lapper on.
func lapsAll(t *testing.T, p plain, blocks [][]int16) {
	t.Helper()
	l, want := newLapper(t, bank.New(), p.n), plainLapper{plain: p}
	for _, x := range blocks {
		laps(t, l, x, want.feed(x))
	}
}

func unlapsAll(t *testing.T, p plain, blocks [][]int32) {
	t.Helper()
	u, want := newUnlapper(t, bank.New(), p.n), plainUnlapper{plain: p}
	for _, c := range blocks {
		unlaps(t, u, c, want.feed(c))
	}
}

// anySamples are blocks of samples of both signs, loud ones and soft ones.
func anySamples(r *rand.Rand, n, blocks int) [][]int16 {
	list := make([][]int16, blocks)
	for i := range list {
		soft := r.Intn(14)
		for range n {
			list[i] = append(list[i], int16(r.Uint32())>>soft)
		}
	}
	return list
}

// anyNumbers are blocks of numbers of both signs, from such as soft samples make to such as none do.
func anyNumbers(r *rand.Rand, n, blocks int) [][]int32 {
	list := make([][]int32, blocks)
	for i := range list {
		soft := r.Intn(26)
		for range n {
			list[i] = append(list[i], int32(r.Uint32())>>soft)
		}
	}
	return list
}

func zeros[T int16 | int32](n, blocks int) [][]T {
	list := make([][]T, blocks)
	for i := range list {
		list[i] = make([]T, n)
	}
	return list
}

// lone is a block of nothing but 0 beside one number.
func lone[T int16 | int32](n, place int, number T) []T {
	list := make([]T, n)
	list[place] = number
	return list
}

func TestLengths(t *testing.T) {
	for range 3 {
		list := Lengths()
		if !slices.Equal(list, allLengths) {
			t.Fatalf("P9.1: Lengths: %v", list)
		}
		list = list[:cap(list)]
		for i := range list {
			list[i] = 41
		}
	}
	if _, e := NewLapper(bank.New(), 41); e != api.ErrArg {
		t.Errorf("P9.1: NewLapper of 41: error %d", e)
	}
}

func TestWindow(t *testing.T) {
	b := bank.New()
	for _, n := range allLengths {
		for range 2 {
			list, e := Window(b, n)
			if want := plainWindow(n); e != api.OK || !slices.Equal(list, want) {
				t.Fatalf("P9.1: Window of %d: %v, error %d, not %v", n, list, e, want)
			}
			spoil(list)
		}
	}
}

func TestWindowParts(t *testing.T) {
	for _, n := range allLengths {
		list, e := Window(bank.New(), n)
		if e != api.OK || len(list) != 2*n {
			t.Fatalf("P9.1: Window of %d: %d numbers, error %d", n, len(list), e)
		}
		z := n / 4
		for i, number := range list {
			silent := i < z || i >= 2*n-z
			loud := i >= 3*z && i < 5*z
			if silent != (number == 0) || loud != (number == 32767) || number != list[2*n-1-i] {
				t.Errorf("P9.1: Window of %d: %d at %d, %d at %d", n, number, i, list[2*n-1-i], 2*n-1-i)
			}
		}
	}
}

func TestExample(t *testing.T) {
	laps(t, newLapper(t, bank.New(), 40), make([]int16, 40), make([]int32, 40))
}

// knownSamples and knownNumbers are what was fed where numbers stand that were reckoned apart from this program.
func knownSamples(n, block int) []int16 {
	x := make([]int16, n)
	for i := range x {
		x[i] = int16((7919*(block*n+i)+1234)%65536 - 32768)
	}
	return x
}

func knownNumbers(n, block int) []int32 {
	c := make([]int32, n)
	for i := range c {
		c[i] = int32((104729*(block*n+i)+4321)%(1<<20) - 1<<19)
	}
	return c
}

// twelve are the numbers at twelve places of a block, its first and its last among them.
func twelve(list []int32) []int32 {
	some := make([]int32, 12)
	for i := range some {
		some[i] = list[i*(len(list)-1)/11]
	}
	return some
}

func TestKnownLaps(t *testing.T) {
	l := newLapper(t, bank.New(), 40)
	lap(t, l, knownSamples(40, 0))
	laps(t, l, knownSamples(40, 1), []int32{10636, -21685, 57255, 7900, -14174, 35114, 46335, 35949, -83486, 419646, 126939, 48143, 1925, -33710, 4330, 30714, -12960, -9889, 165506, 34551, -70143, -18060, -78866, 9048, 5425, -50351, -21152, 38812, -25152, -128538, -7988, -79239, 54350, 9713, -37368, -13368, 10727, -31550, -112713, 37292})
	for n, rows := range map[int][][]int32{
		40:  {{17290, 57720, 71657, 49728, -29013, -1084, -46234, 31672, 24047, 47573, -22875, 2028}, {10636, 7900, 35949, 126939, 4330, -9889, -18060, 5425, -25152, -79239, -13368, 37292}, {-5729, -10492, -15647, 318094, -60507, 34049, -48638, -31326, -8140, -80478, -30397, 71926}},
		60:  {{35336, -41956, -111571, -173854, -18839, -40093, 18972, 16271, -67958, 39317, 13658, 19228}, {-9417, -42183, -21690, -48192, 3786, -39286, -61128, -13366, 138134, 62627, 48187, 595}, {19622, 12771, 92418, 6460, -52368, -3738, 90862, 34417, 23259, -71595, 21063, -43926}},
		80:  {{37306, 32064, -134354, 35509, 42619, -22309, 72374, -11588, 126003, 47045, -6298, 37950}, {8254, 35587, -107869, -23762, 32209, 105, 99293, -14332, 261987, 26398, -43223, 7113}, {-36, -30306, -73325, 105708, 24114, 17421, 74722, 2477, 286747, -79342, -42278, -33947}},
		120: {{29592, -35025, -21038, -77071, 17829, -2479, -42034, -45664, -103749, 34449, 37698, 33507}, {14920, -38580, 18565, -38208, 30741, -36941, 50770, -27077, 14829, -49668, 90709, -2942}, {-9515, 35911, 11734, 17371, 12808, 10179, 39259, 5473, 16098, 31779, 62295, -32873}},
	} {
		l := newLapper(t, bank.New(), n)
		for block, want := range rows {
			if some := twelve(lap(t, l, knownSamples(n, block))); !slices.Equal(some, want) {
				t.Errorf("P9.2: of %d, block %d: %v, not %v", n, block, some, want)
			}
		}
	}
}

func TestKnownUnlaps(t *testing.T) {
	u := newUnlapper(t, bank.New(), 40)
	unlap(t, u, knownNumbers(40, 0))
	unlaps(t, u, knownNumbers(40, 1), []int32{-3716, -8965, -30502, -104105, 116199, 42643, 19108, 13547, -2837, -11067, -46960, -174525, 235017, 86701, 67310, 48431, 49726, 43163, 43562, 108507, 40139, -20895, 43075, -6220, 48047, -1865, 71403, 34762, -104066, -34889, -962, -32218, 14002, -37188, 38111, -81159, -97478, -13680, -11226, -29824})
	for n, rows := range map[int][][]int32{
		40:  {{0, 0, 0, -904, 2531, -4220, 16538, -3416, 68339, 5080, -77584, 7208}, {-3716, -104105, 13547, -46960, 67310, 43163, -20895, 48047, -104066, -32218, -81159, -29824}, {2744, -166150, -19515, -11368, 28375, 7431, -11716, 37265, -117634, -32075, -81002, -29645}},
		60:  {{0, 0, 0, -5309, -11455, 16943, 22505, -22921, 264, -2666, -42398, -4293}, {-5298, -90363, 29701, -7504, 48706, 46286, -3402, 3590, -113519, 8460, -71790, -20485}, {1049, -158603, -8131, -11460, 32342, 27718, 5422, -10740, -126741, 8315, -71632, -20305}},
		80:  {{0, 0, 0, -2246, 1221, 70, -5288, 16032, 59352, -1067, -34635, -6793}, {-4030, -93974, 19380, -71380, 23382, 12831, -11021, 32533, -17261, 5986, -67057, -15549}, {451, -154725, -5757, -57574, 13551, 4305, -6982, 22689, -19918, 5841, -66899, -15369}},
		120: {{0, 0, 0, -1718, -5586, 4544, 17239, -7813, 36409, -17171, -50929, -6827}, {-2295, 44285, 12861, -11093, 27511, 12400, -1951, 1653, -18779, -11087, -102179, -10432}, {15, 23319, -4635, -5262, 15344, 14266, 2777, -5436, -20034, -10941, -102339, -10252}},
	} {
		u := newUnlapper(t, bank.New(), n)
		for block, want := range rows {
			if some := twelve(unlap(t, u, knownNumbers(n, block))); !slices.Equal(some, want) {
				t.Errorf("P9.3: of %d, block %d: %v, not %v", n, block, some, want)
			}
		}
	}
}

func TestLapsAny(t *testing.T) {
	for _, n := range allLengths {
		p := newPlain(t, n)
		for _, blocks := range []int{1, 2, 3, 4, 80} {
			lapsAll(t, p, anySamples(rand.New(rand.NewSource(int64(91+blocks))), n, blocks))
		}
	}
}

func TestUnlapsAny(t *testing.T) {
	for _, n := range allLengths {
		p := newPlain(t, n)
		for _, blocks := range []int{1, 2, 3, 4, 80} {
			unlapsAll(t, p, anyNumbers(rand.New(rand.NewSource(int64(92+blocks))), n, blocks))
		}
	}
}

// One sample in each place, the others 0, and then nothing but 0 till it is gone, and beyond.
func TestOneSampleGoesBy(t *testing.T) {
	for _, n := range allLengths {
		p := newPlain(t, n)
		for place := range n {
			for _, sample := range []int16{low16, high16, 16384, -16384, 1, -1} {
				lapsAll(t, p, append([][]int16{lone(n, place, sample)}, zeros[int16](n, 2)...))
			}
		}
	}
}

func TestOneNumberGoesBy(t *testing.T) {
	for _, n := range allLengths {
		p := newPlain(t, n)
		for place := range n {
			for _, number := range []int32{low32, high32, 16384, -16384, 1, -1} {
				unlapsAll(t, p, append([][]int32{lone(n, place, number)}, zeros[int32](n, 2)...))
			}
		}
	}
}

// loudest are blocks of one end alone, of both ends in turns and in any order.
func loudest[T int16 | int32](r *rand.Rand, n, blocks int, least, most T) [][][]T {
	pick := []func(block, place int) bool{
		func(int, int) bool { return true },
		func(int, int) bool { return false },
		func(_, place int) bool { return place%2 == 0 },
		func(_, place int) bool { return place < n/2 },
		func(block, _ int) bool { return block%2 == 0 },
		func(block, place int) bool { return (block+place)%2 == 0 },
		func(int, int) bool { return r.Intn(2) == 0 },
		func(int, int) bool { return r.Intn(9) == 0 },
	}
	runs := make([][][]T, len(pick))
	for i, high := range pick {
		runs[i] = zeros[T](n, blocks)
		for block, list := range runs[i] {
			for place := range list {
				list[place] = least
				if high(block, place) {
					list[place] = most
				}
			}
		}
	}
	return runs
}

func TestLoudestSamples(t *testing.T) {
	r := rand.New(rand.NewSource(93))
	for _, n := range allLengths {
		p := newPlain(t, n)
		for _, run := range loudest[int16](r, n, 5, low16, high16) {
			lapsAll(t, p, append(run, zeros[int16](n, 3)...))
		}
		for _, k := range []int{0, 1, n / 2, n - 1} {
			lapsAll(t, p, loudestSamples(p, k))
		}
	}
}

// loudestSamples are two blocks each of whose samples has the sign at which the wave of k makes the most of it.
func loudestSamples(p plain, k int) [][]int16 {
	two := zeros[int16](p.n, 2)
	for j := range 2 * p.n {
		two[j/p.n][j%p.n] = low16
		if p.waves[j][k] > 0 {
			two[j/p.n][j%p.n] = high16
		}
	}
	return two
}

func TestLoudestNumbers(t *testing.T) {
	r := rand.New(rand.NewSource(94))
	for _, n := range allLengths {
		p := newPlain(t, n)
		for _, run := range loudest[int32](r, n, 5, low32, high32) {
			unlapsAll(t, p, append(run, zeros[int32](n, 3)...))
		}
		for j := 0; j < 2*n; j += 7 {
			unlapsAll(t, p, append([][]int32{loudestNumbers(p, j, 1), loudestNumbers(p, j, -1)}, zeros[int32](n, 2)...))
		}
	}
}

// loudestNumbers each have the sign at which the waves at j make the most of them, above 0 or below.
func loudestNumbers(p plain, j int, sign int64) []int32 {
	list := make([]int32, p.n)
	for k := range list {
		list[k] = low32
		if sign*p.waves[j][k] > 0 {
			list[k] = high32
		}
	}
	return list
}

// A sum of waves beyond 32 bits is divided as it is, then saturated, then seen through the window: at each place of the window just what the window leaves of an end of 32 bits comes.
func TestSaturatedAheadOfTheWindow(t *testing.T) {
	for _, n := range allLengths {
		p := newPlain(t, n)
		for j := range 2 * n {
			for sign, end := range map[int64]int64{1: high32, -1: low32} {
				u := newUnlapper(t, bank.New(), n)
				list := unlap(t, u, loudestNumbers(p, j, sign))
				if j >= n {
					list = unlap(t, u, make([]int32, n))
				}
				if want := rounded(end * int64(p.window[j])); int64(list[j%n]) != want {
					t.Fatalf("P9.3: of %d at %d: %d, not %d", n, j, list[j%n], want)
				}
			}
		}
	}
}

// Two loud blocks that overlap where the window leaves much of both go beyond 32 bits together.
func TestSaturatedTogether(t *testing.T) {
	for _, n := range allLengths {
		p := newPlain(t, n)
		for _, j := range []int{n/2 - 1, n / 2} {
			for sign, end := range map[int64]int32{1: high32, -1: low32} {
				u := newUnlapper(t, bank.New(), n)
				unlap(t, u, loudestNumbers(p, n+j, sign))
				if list := unlap(t, u, loudestNumbers(p, j, sign)); list[j] != end {
					t.Errorf("P9.3: of %d at %d: %d, not %d", n, j, list[j], end)
				}
			}
		}
	}
}

// Halves of a sample times the window, and of the sum of waves, go upwards: the numbers were reckoned apart from this program.
func TestHalvesOfSamples(t *testing.T) {
	for _, x := range []struct {
		n, place int
		sample   int16
		k        int
		want     int32
	}{
		// 16384 and -16384 times 32767 have a half that is lost: 16384 and -16383 are left.
		{40, 36, 16384, 8, 16381}, {40, 36, -16384, 8, -16380}, {40, 36, -16385, 8, -16381},
		{80, 78, 16384, 13, 16384}, {80, 78, -16384, 13, -16383},
		{120, 116, 16384, 111, 16384}, {120, 116, -16384, 111, -16383},
		// -16385 times 32767 leave -16384; both it and 16384 times an odd number have a half.
		{40, 36, 16384, 0, -9888}, {40, 36, -16385, 0, 9889}, {40, 36, 16384, 11, 11811}, {40, 36, -16385, 11, -11810},
		{60, 59, 16384, 0, -11432}, {60, 59, -16385, 0, 11433}, {60, 59, 16384, 2, 10803}, {60, 59, -16385, 2, -10802},
		{80, 78, 16384, 3, -13711}, {80, 78, -16385, 3, 13712}, {80, 78, 16384, 1, 12563}, {80, 78, -16385, 1, -12562},
		{120, 116, 16384, 0, -11042}, {120, 116, -16385, 0, 11043}, {120, 116, 16384, 1, 13064}, {120, 116, -16385, 1, -13063},
	} {
		l := newLapper(t, bank.New(), x.n)
		lap(t, l, lone(x.n, x.place, x.sample))
		if list := lap(t, l, make([]int16, x.n)); list[x.k] != x.want {
			t.Errorf("P9.2: %d at %d of %d, wave %d: %d, not %d", x.sample, x.place, x.n, x.k, list[x.k], x.want)
		}
	}
}

func TestHalvesOfNumbers(t *testing.T) {
	for _, x := range []struct {
		n, k   int
		number int32
		place  int
		want   int32
	}{
		// Halves of the sum of waves, beside which a number divided by n is one more or less.
		{40, 2, -16384, 30, 723}, {40, 6, -49152, 30, -1959}, {60, 9, 16384, 45, 541}, {60, 18, 114688, 45, -2444},
		{80, 3, 147456, 60, 1174}, {80, 49, -114688, 60, -2399}, {120, 6, 16384, 90, 243}, {120, 31, -114688, 90, -37},
		// Halves of what the window leaves of 16384 and of -16384.
		{40, 1, -389076, 11, 1926}, {40, 1, 389054, 11, -1925}, {60, 1, -563364, 16, 1286}, {60, 1, 563332, 16, -1285},
		{80, 1, -718459, 20, 322}, {80, 1, 718417, 20, -321}, {120, 1, -1072984, 30, 215}, {120, 1, 1072924, 30, -214},
	} {
		list := unlap(t, newUnlapper(t, bank.New(), x.n), lone(x.n, x.k, x.number))
		if list[x.place] != x.want {
			t.Errorf("P9.3: %d at %d of %d: %d at %d, not %d", x.number, x.k, x.n, list[x.place], x.place, x.want)
		}
	}
}

// Where the wave is nearly 32767 a lone soft number is what is divided by n: its halves go upwards, above 0 and below.
func TestHalvesOfDivisions(t *testing.T) {
	for _, x := range []struct{ n, k, place int }{{40, 8, 36}, {60, 29, 59}, {80, 13, 78}, {120, 111, 116}} {
		q := int32(x.n / 4)
		for number, want := range map[int32]int32{
			0: 0, q - 1: 0, q: 1, 3*q - 1: 1, 3 * q: 2, 2 * q: 1,
			-q: 0, -q - 1: -1, -3 * q: -1, -3*q - 1: -2, -2 * q: -1,
		} {
			list := unlap(t, newUnlapper(t, bank.New(), x.n), lone(x.n, x.k, number))
			if list[x.place] != want {
				t.Errorf("P9.3: %d divided by %d: %d, not %d", 2*number, x.n, list[x.place], want)
			}
		}
	}
}

func TestSoftNumbers(t *testing.T) {
	for _, n := range allLengths {
		p := newPlain(t, n)
		var blocks [][]int32
		for number := int32(-2 * n); number <= int32(2*n); number++ {
			blocks = append(blocks, lone(n, int(number)&31, number))
		}
		unlapsAll(t, p, blocks)
	}
}

func TestWrongLengths(t *testing.T) {
	bad := slices.Clone(badLengths)
	for n := -300; n <= 1000; n++ {
		if !slices.Contains(allLengths, n) {
			bad = append(bad, n)
		}
	}
	refuse := func(b *bank.Bank, n int, want api.Errno) {
		t.Helper()
		if list, e := Window(b, n); len(list) != 0 || e != want {
			t.Errorf("P9.1: Window of %d: %v, error %d, not %d", n, list, e, want)
		}
		if l, e := NewLapper(b, n); l != nil || e != want {
			t.Errorf("P9.1: NewLapper of %d: error %d, not %d", n, e, want)
		}
		if u, e := NewUnlapper(b, n); u != nil || e != want {
			t.Errorf("P9.1: NewUnlapper of %d: error %d, not %d", n, e, want)
		}
	}
	b := bank.New()
	for _, n := range bad {
		refuse(b, n, api.ErrArg)
		// The length is asked ahead of the bank.
		refuse(nil, n, api.ErrArg)
	}
	if b.Made() != 0 || b.Told() != 0 {
		t.Errorf("R2: with an error the bank made %d tables, and told %d", b.Made(), b.Told())
	}
	for _, n := range allLengths {
		refuse(nil, n, api.ErrNil)
	}
}

// wrongLists are lists that have not n numbers.
func wrongLists[T int16 | int32](n int) [][]T {
	list := [][]T{nil, {}, make([]T, n, 2*n)[:0]}
	for _, size := range []int{1, n - 1, n + 1, 2 * n, 160 - n} {
		if size != n {
			list = append(list, slices.Repeat([]T{12345}, size))
		}
	}
	return list
}

// A wrong call changes nothing: what is told behind it is as if it had not been.
func TestLapperRefuses(t *testing.T) {
	for _, n := range allLengths {
		l, want := newLapper(t, bank.New(), n), plainLapper{plain: newPlain(t, n)}
		for _, x := range anySamples(rand.New(rand.NewSource(95)), n, 8) {
			for _, wrong := range wrongLists[int16](n) {
				if list, e := l.Feed(wrong); e != api.ErrArg || len(list) != 0 {
					t.Fatalf("P9.2: Feed of %d samples, %d: %v, error %d", len(wrong), n, list, e)
				}
			}
			laps(t, l, x, want.feed(x))
		}
	}
}

func TestUnlapperRefuses(t *testing.T) {
	for _, n := range allLengths {
		u, want := newUnlapper(t, bank.New(), n), plainUnlapper{plain: newPlain(t, n)}
		for _, c := range anyNumbers(rand.New(rand.NewSource(96)), n, 8) {
			for _, wrong := range wrongLists[int32](n) {
				if list, e := u.Feed(wrong); e != api.ErrArg || len(list) != 0 {
					t.Fatalf("P9.3: Feed of %d numbers, %d: %v, error %d", len(wrong), n, list, e)
				}
			}
			unlaps(t, u, c, want.feed(c))
		}
	}
}

func TestOfNil(t *testing.T) {
	var l *Lapper
	var u *Unlapper
	l.Reset()
	u.Reset()
	for _, n := range allLengths {
		for _, x := range append(wrongLists[int16](n), make([]int16, n)) {
			if list, e := l.Feed(x); e != api.ErrNil || len(list) != 0 {
				t.Errorf("P9.2: nil.Feed of %d samples: %v, error %d", len(x), list, e)
			}
		}
		for _, c := range append(wrongLists[int32](n), make([]int32, n)) {
			if list, e := u.Feed(c); e != api.ErrNil || len(list) != 0 {
				t.Errorf("P9.3: nil.Feed of %d numbers: %v, error %d", len(c), list, e)
			}
		}
	}
}

func TestResetIsAsNew(t *testing.T) {
	for _, n := range allLengths {
		r := rand.New(rand.NewSource(97))
		p := newPlain(t, n)
		l, u := newLapper(t, bank.New(), n), newUnlapper(t, bank.New(), n)
		for _, blocks := range []int{0, 1, 2, 3, 20} {
			for _, x := range anySamples(r, n, blocks) {
				lap(t, l, x)
			}
			for _, c := range anyNumbers(r, n, blocks) {
				unlap(t, u, c)
			}
			l.Reset()
			u.Reset()
			wantLap, wantUnlap := plainLapper{plain: p}, plainUnlapper{plain: p}
			for _, x := range anySamples(r, n, 3) {
				laps(t, l, x, wantLap.feed(x))
			}
			for _, c := range anyNumbers(r, n, 3) {
				unlaps(t, u, c, wantUnlap.feed(c))
			}
			l.Reset()
			l.Reset()
			u.Reset()
			u.Reset()
			laps(t, l, make([]int16, n), make([]int32, n))
			unlaps(t, u, make([]int32, n), make([]int32, n))
		}
	}
}

// Two calls forget whatever came ahead of them; one doesn't.
func TestTwoCallsForget(t *testing.T) {
	for _, n := range allLengths {
		r := rand.New(rand.NewSource(98))
		l, u := newLapper(t, bank.New(), n), newUnlapper(t, bank.New(), n)
		for _, blocks := range []int{1, 2, 3, 15} {
			newL, newU := newLapper(t, bank.New(), n), newUnlapper(t, bank.New(), n)
			for range blocks {
				lap(t, l, slices.Repeat([]int16{low16}, n))
				unlap(t, u, lone[int32](n, n/2, high32))
			}
			for i, x := range anySamples(r, n, 5) {
				if same := slices.Equal(lap(t, l, x), lap(t, newL, x)); same != (i >= 1) {
					t.Errorf("P9.4: a lapper of %d, call %d: as a new one: %v", n, i+1, same)
				}
			}
			for i, c := range anyNumbers(r, n, 5) {
				if same := slices.Equal(unlap(t, u, c), unlap(t, newU, c)); same != (i >= 1) {
					t.Errorf("P9.4: an unlapper of %d, call %d: as a new one: %v", n, i+1, same)
				}
			}
		}
	}
}

// The last call that knows of a block is the second.
func TestBlockGoes(t *testing.T) {
	for _, n := range allLengths {
		l, u := newLapper(t, bank.New(), n), newUnlapper(t, bank.New(), n)
		lap(t, l, slices.Repeat([]int16{high16}, n))
		unlap(t, u, lone[int32](n, 0, 1<<20))
		for call := 2; call < 6; call++ {
			waves, samples := lap(t, l, make([]int16, n)), unlap(t, u, make([]int32, n))
			if silent := slices.Equal(waves, make([]int32, n)); silent != (call > 2) {
				t.Errorf("P9.4: a lapper of %d, call %d: %v", n, call, waves)
			}
			if silent := slices.Equal(samples, make([]int32, n)); silent != (call > 2) {
				t.Errorf("P9.4: an unlapper of %d, call %d: %v", n, call, samples)
			}
		}
	}
}

// comesBack runs blocks through both, and asks for each one block later.
func comesBack(t *testing.T, n int, blocks [][]int16) {
	t.Helper()
	b := bank.New()
	l, u := newLapper(t, b, n), newUnlapper(t, b, n)
	late := make([]int16, n)
	for block, x := range blocks {
		for i, number := range unlap(t, u, lap(t, l, x)) {
			if d := int64(number) - int64(late[i]); d > 32 || d < -32 {
				t.Fatalf("P9.4: of %d, block %d, sample %d: %d, not %d", n, block, i, number, late[i])
			}
		}
		late = x
	}
}

func TestComesBack(t *testing.T) {
	r := rand.New(rand.NewSource(99))
	for _, n := range allLengths {
		comesBack(t, n, anySamples(r, n, 200))
		for _, run := range loudest[int16](r, n, 8, low16, high16) {
			comesBack(t, n, append(run, zeros[int16](n, 3)...))
		}
		for place := range n {
			comesBack(t, n, [][]int16{lone[int16](n, place, low16), lone[int16](n, place, high16), make([]int16, n), make([]int16, n)})
		}
		for _, parts := range []int{3, 8, 37, 500} {
			comesBack(t, n, slowWave(t, n, parts))
		}
	}
}

// slowWave is ten blocks of the loudest sine of which a turn has so many samples.
func slowWave(t *testing.T, n, parts int) [][]int16 {
	t.Helper()
	blocks := zeros[int16](n, 10)
	for at := range 10 * n {
		s, e := wave.Sine(at, parts)
		if e != api.OK {
			t.Fatalf("Sine(%d, %d): error %d", at, parts, e)
		}
		blocks[at/n][at%n] = s
	}
	return blocks
}

// The samples that come back worst have, each, the sign of what the tables' roundings make of them at one place: at no place may three such blocks lead further than 32 away.
func TestWorstComesBack(t *testing.T) {
	for _, n := range allLengths {
		p := newPlain(t, n)
		for place := 0; place < n; place += 5 {
			for _, sign := range []float64{1, -1} {
				blocks := zeros[int16](n, 3)
				for at := range 3 * n {
					blocks[at/n][at%n] = low16
					if sign*fault(p, place, at) > 0 {
						blocks[at/n][at%n] = high16
					}
				}
				comesBack(t, n, blocks)
			}
		}
	}
}

// fault is how much the sample at one of three blocks' places has in the number that comes back for a place of the second, beyond what it should have.
func fault(p plain, place, at int) float64 {
	part := 0.0
	for call := range 2 {
		in, out := at-call*p.n, place+(1-call)*p.n
		if in < 0 || in >= 2*p.n {
			continue
		}
		sum := 0.0
		for k := range p.n {
			sum += float64(p.waves[in][k] * p.waves[out][k])
		}
		part += sum * float64(p.window[in]) * float64(p.window[out]) * 2 / float64(p.n)
	}
	part /= 1 << 60
	if at == p.n+place {
		part--
	}
	return part
}

// spoil changes a list to the end of its capacity: what lies behind its length is nobody else's either.
func spoil[T int16 | int32](list []T) {
	list = list[:cap(list)]
	for i := range list {
		list[i] = 12345
	}
}

// leftAlone checks that Feed left its list as it was, and what lies behind it within its capacity, and then spoils it.
func leftAlone[T int16 | int32](t *testing.T, room, given []T) {
	t.Helper()
	if !slices.Equal(room, append(slices.Clone(given), 99, 98, 97)) {
		t.Fatalf("R4: Feed made %v of %v", room, given)
	}
	spoil(room)
}

func TestListsAreTheCallers(t *testing.T) {
	for _, n := range allLengths {
		r := rand.New(rand.NewSource(100))
		p := newPlain(t, n)
		l, wantLap := newLapper(t, bank.New(), n), plainLapper{plain: p}
		for _, x := range anySamples(r, n, 10) {
			room := append(slices.Clone(x), 99, 98, 97)
			told := lap(t, l, room[:n])
			if want := wantLap.feed(x); !slices.Equal(told, want) {
				t.Fatalf("P9.2: Feed(%v): %v, not %v", x, told, want)
			}
			leftAlone(t, room, x)
			spoil(told)
		}
		u, wantUnlap := newUnlapper(t, bank.New(), n), plainUnlapper{plain: p}
		for _, c := range anyNumbers(r, n, 10) {
			room := append(slices.Clone(c), 99, 98, 97)
			told := unlap(t, u, room[:n])
			if want := wantUnlap.feed(c); !slices.Equal(told, want) {
				t.Fatalf("P9.3: Feed(%v): %v, not %v", c, told, want)
			}
			leftAlone(t, room, c)
			spoil(told)
		}
	}
}

// What was told once stays as it was, whatever is fed afterwards.
func TestToldStays(t *testing.T) {
	for _, n := range allLengths {
		r := rand.New(rand.NewSource(101))
		l, u := newLapper(t, bank.New(), n), newUnlapper(t, bank.New(), n)
		waves, samples := lap(t, l, anySamples(r, n, 1)[0]), unlap(t, u, anyNumbers(r, n, 1)[0])
		keepWaves, keepSamples := slices.Clone(waves), slices.Clone(samples)
		for i := range 6 {
			lap(t, l, anySamples(r, n, 1)[0])
			unlap(t, u, anyNumbers(r, n, 1)[0])
			if i == 4 {
				l.Reset()
				u.Reset()
			}
			if !slices.Equal(waves, keepWaves) || !slices.Equal(samples, keepSamples) {
				t.Fatal("R4: what Feed told changed with a later call")
			}
		}
	}
}

// Lappers and unlappers of one bank, of one length and of others, know nothing of one another, nor of what becomes of a window that was told.
func TestOfOneBank(t *testing.T) {
	b := bank.New()
	r := rand.New(rand.NewSource(102))
	type pair struct {
		l     *Lapper
		u     *Unlapper
		lap   plainLapper
		unlap plainUnlapper
	}
	var pairs []*pair
	for _, n := range append(slices.Clone(allLengths), allLengths...) {
		p := newPlain(t, n)
		pairs = append(pairs, &pair{newLapper(t, b, n), newUnlapper(t, b, n), plainLapper{plain: p}, plainUnlapper{plain: p}})
		window, _ := Window(b, n)
		spoil(window)
	}
	for range 200 {
		p := pairs[r.Intn(len(pairs))]
		n := p.lap.n
		switch r.Intn(12) {
		case 0:
			p.l.Reset()
			p.lap.all = nil
		case 1:
			p.u.Reset()
			p.unlap.calls = nil
		default:
			x, c := anySamples(r, n, 1)[0], anyNumbers(r, n, 1)[0]
			laps(t, p.l, x, p.lap.feed(x))
			unlaps(t, p.u, c, p.unlap.feed(c))
		}
	}
}

// A bank makes just the two tables of a length, once for all who lap and unlap by it, and none for a window beside them.
func TestTablesOfTheBank(t *testing.T) {
	b := bank.New()
	for _, n := range allLengths {
		before := b.Made()
		if _, e := Window(b, n); e != api.OK || b.Made() != before+1 {
			t.Errorf("P9.1: Window of %d: error %d, %d tables were made", n, e, b.Made()-before)
		}
		for range 3 {
			newLapper(t, b, n)
			newUnlapper(t, b, n)
		}
		if b.Made() != before+2 {
			t.Errorf("P9.1: of %d %d tables were made", n, b.Made()-before)
		}
	}
}
