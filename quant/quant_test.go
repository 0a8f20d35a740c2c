package quant

import (
	"math"
	"slices"
	"testing"

	"psaltery/api"
)

// Both sums were reckoned apart, in another language; so was how many bands are better joined, how many aren't, and of how many both are the same.
const (
	wantCodes  = uint64(1082689861054674647)
	wantPlanes = uint64(6020244537102465214)
	wantBetter = 2783
	wantWorse  = 1003
	wantSame   = 1590
)

// mixer takes numbers into one sum, in which their order counts.
type mixer uint64

func newMixer() mixer { return 14695981039346656037 }

func (m *mixer) take(x int64) { *m = (*m ^ mixer(x)) * 1099511628211 }

// drawer draws numbers from a fixed seed, so that a failure comes again.
type drawer struct{ seed int }

func (d *drawer) draw() int {
	d.seed = (d.seed*1103515245 + 12345) % (1 << 31)
	return d.seed >> 16
}

// number is an int32 of any size up to 32 bits less the shift.
func (d *drawer) number(shift int) int32 {
	high, middle, low := d.draw(), d.draw(), d.draw()
	return int32(uint32(high<<17^middle<<2^low&3)) >> shift
}

// down is the greatest whole number that isn't above a divided by b.
func down(a, b int64) int64 {
	n := a / b
	for n*b > a {
		n--
	}
	for (n+1)*b <= a {
		n++
	}
	return n
}

func saturated(n int64) int32 {
	if n > math.MaxInt32 {
		return math.MaxInt32
	}
	if n < math.MinInt32 {
		return math.MinInt32
	}
	return int32(n)
}

// reaches has the reach of each scale, written out.
var reaches = [16]int64{2, 4, 8, 16, 32, 64, 128, 256, 512, 1024, 2048, 4096, 8192, 16384, 32768, 65536}

func everyBits() []int { return []int{0, 2, 3, 4, 5, 6, 7, 8, 9, 10, 11, 12, 13, 14, 15, 16} }

// levelsOf has the levels of each number of bits, written out.
func levelsOf(b int) int64 {
	return [17]int64{0, 1, 3, 7, 15, 31, 63, 127, 255, 511, 1023, 2047, 4095, 8191, 16383, 32767, 65535}[b]
}

func modelScale(most int64) int {
	for s, reach := range reaches {
		if reach > most {
			return s
		}
	}
	return 15
}

func modelCut(x int64, s int) int64 {
	if x > reaches[s]-1 {
		return reaches[s] - 1
	}
	if x < -(reaches[s] - 1) {
		return -(reaches[s] - 1)
	}
	return x
}

func modelQuant(x int64, s, b int) int64 {
	if b == 0 {
		return 0
	}
	l := levelsOf(b)
	return down(down(modelCut(x, s)*l, reaches[s])+l, 2)
}

func modelLevel(q int64, s, b int) int64 {
	if b == 0 {
		return 0
	}
	return down((2*q+1)*reaches[s], levelsOf(b)) - reaches[s]
}

func modelScales(p [][]int32) []int {
	var scales []int
	for band := range p[0] {
		most := int64(0)
		for block := range p {
			x := int64(p[block][band])
			if x < 0 {
				x = -x
			}
			if x > most {
				most = x
			}
		}
		scales = append(scales, modelScale(most))
	}
	return scales
}

func modelPlanes(a, b [][]int32, first, second func(x, y int64) int32) (p, q [][]int32) {
	for i := range a {
		var u, v []int32
		for k := range a[i] {
			x, y := int64(a[i][k]), int64(b[i][k])
			u, v = append(u, first(x, y)), append(v, second(x, y))
		}
		p, q = append(p, u), append(q, v)
	}
	return p, q
}

func modelMiddle(l, r [][]int32) (m, s [][]int32) {
	return modelPlanes(l, r, func(x, y int64) int32 { return int32(down(x+y, 2)) }, func(x, y int64) int32 { return int32(down(x-y, 2)) })
}

func modelSides(m, s [][]int32) (l, r [][]int32) {
	return modelPlanes(m, s, func(x, y int64) int32 { return saturated(x + y) }, func(x, y int64) int32 { return saturated(x - y) })
}

// modelGains tells by how much the scales of both together are above those of middle and side together.
func modelGains(l, r [][]int32) []int {
	m, s := modelMiddle(l, r)
	gains := modelScales(l)
	sr, sm, ss := modelScales(r), modelScales(m), modelScales(s)
	for k := range gains {
		gains[k] += sr[k] - sm[k] - ss[k]
	}
	return gains
}

func modelJoins(l, r [][]int32) []bool {
	gains := modelGains(l, r)
	joins := make([]bool, len(gains))
	for k, gain := range gains {
		joins[k] = gain > 0 && k < len(gains)-1
	}
	return joins
}

func samePlane(a, b [][]int32) bool { return slices.EqualFunc(a, b, slices.Equal[[]int32]) }

func copied(p [][]int32) [][]int32 {
	told := make([][]int32, len(p))
	for i := range p {
		told[i] = slices.Clone(p[i])
	}
	return told
}

// filled is a plane of x alone.
func filled(blocks, bands int, x int32) [][]int32 {
	p := make([][]int32, blocks)
	for i := range p {
		p[i] = slices.Repeat([]int32{x}, bands)
	}
	return p
}

func TestScaleOfEachNumber(t *testing.T) {
	for most := int64(-300); most <= 1<<17+300; most++ {
		if s := Scale(most); s != modelScale(most) {
			t.Fatalf("P13.1: Scale(%d): %d, not %d", most, s, modelScale(most))
		}
	}
	for k := 0; k < 63; k++ {
		p := int64(1) << k
		for _, most := range []int64{p - 1, p, p + 1, -p, 1 - p, -1 - p} {
			if s := Scale(most); s != modelScale(most) {
				t.Errorf("P13.1: Scale(%d): %d, not %d", most, s, modelScale(most))
			}
		}
		// The power of two itself is where the next scale begins.
		if s := Scale(p); s != min(k, 15) {
			t.Errorf("P13.1: Scale(%d): %d, not %d", p, s, min(k, 15))
		}
		if s := Scale(p - 1); s != min(max(k-1, 0), 15) {
			t.Errorf("P13.1: Scale(%d): %d, not %d", p-1, s, min(max(k-1, 0), 15))
		}
	}
}

func TestScalesWrittenOut(t *testing.T) {
	for _, c := range []struct {
		most int64
		want int
	}{
		{1, 0}, {2, 1}, {0, 0}, {-1, 0}, {-5, 0}, {-1 << 40, 0}, {math.MinInt64, 0}, {math.MinInt64 + 1, 0},
		{3, 1}, {4, 2}, {7, 2}, {8, 3}, {32767, 14}, {32768, 15}, {65535, 15}, {65536, 15}, {65537, 15},
		{1 << 31, 15}, {1 << 40, 15}, {1 << 62, 15}, {math.MaxInt64 - 1, 15}, {math.MaxInt64, 15},
	} {
		if s := Scale(c.most); s != c.want {
			t.Errorf("P13.1: Scale(%d): %d, not %d", c.most, s, c.want)
		}
	}
	for _, c := range []struct {
		p    [][]int32
		want []int
	}{
		{[][]int32{{0}}, []int{0}},
		{[][]int32{{-1}}, []int{0}},
		{[][]int32{{-2}}, []int{1}},
		{[][]int32{{3, -4}, {-8, 1}}, []int{3, 2}},
		{[][]int32{{1, 2, 4, 8}, {-2, -4, -8, -16}, {0, 1, 2, 3}}, []int{1, 2, 3, 4}},
		{[][]int32{{math.MinInt32, math.MaxInt32, 65535, -65536}}, []int{15, 15, 15, 15}},
		{[][]int32{{0, 0}, {math.MinInt32, 1}, {0, 0}}, []int{15, 0}},
		{[][]int32{{32767, -32767, 32768, -32768}}, []int{14, 14, 15, 15}},
		{[][]int32{{1, 2, 4, 8, 16, 32, 64, 128}, {0, 0, 0, 0, 0, 0, 0, -256}}, []int{0, 1, 2, 3, 4, 5, 6, 8}},
	} {
		if got, e := Scales(c.p); e != api.OK || !slices.Equal(got, c.want) {
			t.Errorf("P13.1: Scales(%v): %v, %d, not %v", c.p, got, e, c.want)
		}
	}
}

// TestScalesByPlace puts each band's greatest number into each block, above 0 and below, among smaller ones of either sign.
func TestScalesByPlace(t *testing.T) {
	d := &drawer{seed: 7}
	for bands := 1; bands <= 8; bands++ {
		for _, blocks := range []int{1, 2, 3, 4, 16, 40} {
			for at := range blocks {
				for k := range 31 {
					p, want := filled(blocks, bands, 0), make([]int, bands)
					for band := range bands {
						bits := (k + 5*band) % 31
						most := int32(1) << bits
						for i := range p {
							p[i][band] = d.number(0) % most
						}
						p[at][band] = most
						if (at+k+band)%2 == 1 {
							p[at][band] = -most
						}
						want[band] = min(bits, 15)
					}
					before := copied(p)
					if got, e := Scales(p); e != api.OK || !slices.Equal(got, want) {
						t.Fatalf("P13.1: Scales(%v): %v, %d, not %v", p, got, e, want)
					}
					if !samePlane(p, before) {
						t.Fatalf("R4: Scales changes what it is handed: %v", p)
					}
				}
			}
		}
	}
}

// TestEachCode goes through each number within a reach and just beyond, and each level, of all scales and bits.
func TestEachCode(t *testing.T) {
	sum := newMixer()
	for s, reach := range reaches {
		for _, b := range everyBits() {
			for x := -reach - 2; x <= reach+2; x++ {
				sum.take(int64(holdQuant(t, x, s, b)))
			}
			for q := range max(1, int(levelsOf(b))) {
				sum.take(int64(holdLevel(t, q, s, b)))
			}
		}
	}
	if uint64(sum) != wantCodes {
		t.Errorf("P13.2: all codes and levels have the sum %d, not %d", sum, wantCodes)
	}
}

// holdQuant holds Quant against the model, and against what P13.4 says of it.
func holdQuant(t *testing.T, x int64, s, b int) int {
	t.Helper()
	q, e := Quant(int32(x), s, b)
	if want := modelQuant(x, s, b); e != api.OK || int64(q) != want {
		t.Fatalf("P13.2: Quant(%d, %d, %d): %d, %d, not %d", x, s, b, q, e, want)
	}
	if b == 0 {
		return q
	}
	l := levelsOf(b)
	if q < 0 || int64(q) > l-1 {
		t.Fatalf("P13.4: Quant(%d, %d, %d): %d isn't from 0 to %d", x, s, b, q, l-1)
	}
	y, e := Level(q, s, b)
	away := int64(y) - modelCut(x, s)
	if away < 0 {
		away = -away
	}
	// A step is the reach by L, twice, and one; without rest it is no greater.
	if e != api.OK || away > 2*reaches[s]/l+1 {
		t.Fatalf("P13.4: Quant(%d, %d, %d) is %d, whose Level is %d, %d: more than a step away", x, s, b, q, y, e)
	}
	return q
}

// holdLevel holds Level against the model, and against what P13.4 says of it.
func holdLevel(t *testing.T, q, s, b int) int32 {
	t.Helper()
	y, e := Level(q, s, b)
	if want := modelLevel(int64(q), s, b); e != api.OK || int64(y) != want {
		t.Fatalf("P13.2: Level(%d, %d, %d): %d, %d, not %d", q, s, b, y, e, want)
	}
	if levelsOf(b) < reaches[s] {
		if again, e := Quant(y, s, b); e != api.OK || again != q {
			t.Fatalf("P13.4: Level(%d, %d, %d) is %d, whose Quant is %d, %d", q, s, b, y, again, e)
		}
	}
	return y
}

// TestQuantFarBeyond has what is cut, up to the ends of an int32.
func TestQuantFarBeyond(t *testing.T) {
	d := &drawer{seed: 3}
	for s, reach := range reaches {
		far := []int64{math.MinInt32, math.MinInt32 + 1, math.MaxInt32 - 1, math.MaxInt32, -reach - 1, -reach, 1 - reach, reach - 1, reach, reach + 1, 2 * reach, -2 * reach}
		for range 100 {
			far = append(far, int64(d.number(d.draw()%20)))
		}
		for _, b := range everyBits() {
			least, _ := Quant(int32(1-reach), s, b)
			most, _ := Quant(int32(reach-1), s, b)
			for _, x := range far {
				q := holdQuant(t, x, s, b)
				if x >= reach && q != most || x <= -reach && q != least {
					t.Fatalf("P13.2: Quant(%d, %d, %d): %d isn't that of what it is cut to", x, s, b, q)
				}
			}
		}
	}
}

func TestCodesWrittenOut(t *testing.T) {
	for _, c := range []struct {
		x    int32
		s, b int
		q    int
		back int32
	}{
		// The chapter's example, and all else of three levels in a reach of 2.
		{0, 0, 2, 1, 0}, {1, 0, 2, 2, 1}, {-1, 0, 2, 0, -2}, {2, 0, 2, 2, 1}, {-2, 0, 2, 0, -2},
		// No bits.
		{7, 3, 0, 0, 0}, {math.MinInt32, 15, 0, 0, 0}, {math.MaxInt32, 0, 0, 0, 0},
		// More levels than the reach has numbers: what is below 0 is cut to 1 less than the reach, too.
		{0, 0, 16, 32767, 0}, {1, 0, 16, 49151, 1}, {-1, 0, 16, 16383, -2}, {2, 0, 16, 49151, 1}, {-2, 0, 16, 16383, -2},
		{math.MaxInt32, 0, 16, 49151, 1}, {math.MinInt32, 0, 16, 16383, -2},
		{-3, 1, 4, 1, -4}, {-4, 1, 4, 1, -4}, {3, 1, 4, 13, 3}, {4, 1, 4, 13, 3},
		// Divisions of numbers below 0: -30/8, -15/8, -75/8.
		{-2, 2, 4, 5, -3}, {-1, 2, 4, 6, -2}, {-5, 2, 4, 2, -6}, {2, 2, 4, 9, 2}, {1, 2, 4, 8, 1},
		{100, 6, 4, 13, 102}, {-100, 6, 4, 1, -103}, {-500, 6, 4, 0, -120}, {127, 6, 4, 14, 119}, {-127, 6, 4, 0, -120}, {-128, 6, 4, 0, -120}, {128, 6, 4, 14, 119},
		{32767, 14, 16, 65534, 32767}, {-32767, 14, 16, 0, -32768}, {-32768, 14, 16, 0, -32768}, {-32766, 14, 16, 1, -32767}, {32768, 14, 16, 65534, 32767},
		{65535, 15, 16, 65534, 65534}, {-65535, 15, 16, 0, -65535}, {-65536, 15, 16, 0, -65535}, {0, 15, 16, 32767, 0},
		{math.MaxInt32, 15, 16, 65534, 65534}, {math.MinInt32, 15, 16, 0, -65535}, {math.MaxInt32, 15, 2, 2, 43690}, {math.MinInt32, 15, 2, 0, -43691},
	} {
		q, e := Quant(c.x, c.s, c.b)
		back, f := Level(c.q, c.s, c.b)
		if q != c.q || e != api.OK {
			t.Errorf("P13.2: Quant(%d, %d, %d): %d, %d, not %d", c.x, c.s, c.b, q, e, c.q)
		}
		if back != c.back || f != api.OK {
			t.Errorf("P13.2: Level(%d, %d, %d): %d, %d, not %d", c.q, c.s, c.b, back, f, c.back)
		}
	}
}

func TestNoScaleAndNoBits(t *testing.T) {
	scales := []int{-1, 16, 17, 31, 62, 63, 64, math.MinInt, math.MinInt + 1, math.MaxInt, 1 << 32, -1 << 32}
	bits := []int{1, -1, -2, 17, 18, 32, 63, 64, math.MinInt, math.MinInt + 1, math.MaxInt, 1 << 32, 1<<32 + 2}
	refused := func(s, b int) {
		for _, x := range []int32{0, 1, -1, 100, math.MinInt32, math.MaxInt32} {
			if q, e := Quant(x, s, b); q != 0 || e != api.ErrArg {
				t.Errorf("P13.2: Quant(%d, %d, %d): %d, %d", x, s, b, q, e)
			}
		}
		for _, q := range []int{0, 1, 2, -1, math.MinInt, math.MaxInt} {
			if y, e := Level(q, s, b); y != 0 || e != api.ErrArg {
				t.Errorf("P13.2: Level(%d, %d, %d): %d, %d", q, s, b, y, e)
			}
		}
	}
	for _, s := range scales {
		for _, b := range append(everyBits(), bits...) {
			refused(s, b)
		}
	}
	for _, b := range bits {
		for s := range reaches {
			refused(s, b)
		}
	}
}

func TestNoLevel(t *testing.T) {
	for s := range reaches {
		for _, b := range everyBits() {
			l := int(levelsOf(b))
			wrong := []int{-1, -2, -l - 1, max(l, 1), l + 1, l + 2, 1 << 16, 1 << 32, 1<<32 + 1, math.MinInt, math.MinInt + 1, math.MaxInt - 1, math.MaxInt, 1 << 62}
			if b == 0 {
				wrong = append(wrong, 1, 2, 3)
			}
			for _, q := range wrong {
				if y, e := Level(q, s, b); y != 0 || e != api.ErrArg {
					t.Errorf("P13.2: Level(%d, %d, %d): %d, %d", q, s, b, y, e)
				}
			}
			for _, q := range []int{0, max(l-1, 0)} {
				if _, e := Level(q, s, b); e != api.OK {
					t.Errorf("P13.2: Level(%d, %d, %d): %d", q, s, b, e)
				}
			}
		}
	}
}

// pair draws two planes whose bands are mixed, nearly alike, nearly opposite, and alike and opposite in turns.
func (d *drawer) pair(blocks, bands int) (l, r [][]int32) {
	l, r = filled(blocks, bands, 0), filled(blocks, bands, 0)
	for k := range bands {
		kind, u, v := d.draw()%4, d.draw()%32, d.draw()%32
		for i := range blocks {
			x, y := d.number(u), d.number(v)
			l[i][k] = x
			switch kind {
			case 0:
				r[i][k] = y
			case 1:
				r[i][k] = saturated(int64(x) + int64(y&7))
			case 2:
				r[i][k] = saturated(-int64(x) - int64(y&7))
			case 3:
				r[i][k] = x
				if i%2 == 0 {
					r[i][k] = saturated(-int64(x))
				}
			}
		}
	}
	return l, r
}

func TestPairsOfPlanes(t *testing.T) {
	sum, d := newMixer(), &drawer{seed: 1}
	better, worse, equal := 0, 0, 0
	for bands := 1; bands <= 8; bands++ {
		for blocks := 1; blocks <= 16; blocks++ {
			for range 12 {
				l, r := d.pair(blocks, bands)
				holdPair(t, l, r, &sum)
				for _, gain := range modelGains(l, r)[:bands-1] {
					switch {
					case gain > 0:
						better++
					case gain < 0:
						worse++
					default:
						equal++
					}
				}
			}
		}
	}
	if uint64(sum) != wantPlanes {
		t.Errorf("P13.1, P13.3: what the planes tell has the sum %d, not %d", sum, wantPlanes)
	}
	if better != wantBetter || worse != wantWorse || equal != wantSame {
		t.Errorf("P13.3: %d bands are better joined, %d worse, %d the same", better, worse, equal)
	}
}

// holdPair asks all that is told of planes, holds it against the model, and takes it into the sum.
func holdPair(t *testing.T, l, r [][]int32, sum *mixer) {
	t.Helper()
	keptL, keptR := copied(l), copied(r)
	m, s, e := Middle(l, r)
	wantM, wantS := modelMiddle(l, r)
	if e != api.OK || !samePlane(m, wantM) || !samePlane(s, wantS) {
		t.Fatalf("P13.3: Middle(%v, %v): %v, %v, %d, not %v, %v", l, r, m, s, e, wantM, wantS)
	}
	a, b, e := Sides(l, r)
	wantA, wantB := modelSides(l, r)
	if e != api.OK || !samePlane(a, wantA) || !samePlane(b, wantB) {
		t.Fatalf("P13.3: Sides(%v, %v): %v, %v, %d, not %v, %v", l, r, a, b, e, wantA, wantB)
	}
	for _, p := range [][][]int32{m, s, a, b} {
		for _, block := range p {
			for _, x := range block {
				sum.take(int64(x))
			}
		}
	}
	for _, p := range [][][]int32{l, r} {
		scales, e := Scales(p)
		if want := modelScales(p); e != api.OK || !slices.Equal(scales, want) {
			t.Fatalf("P13.1: Scales(%v): %v, %d, not %v", p, scales, e, want)
		}
		for _, x := range scales {
			sum.take(int64(x))
		}
	}
	joins, e := Joins(l, r)
	if want := modelJoins(l, r); e != api.OK || !slices.Equal(joins, want) {
		t.Fatalf("P13.3: Joins(%v, %v): %v, %d, not %v", l, r, joins, e, want)
	}
	for _, join := range joins {
		if join {
			sum.take(1)
		} else {
			sum.take(0)
		}
	}
	if !samePlane(l, keptL) || !samePlane(r, keptR) {
		t.Fatalf("R4: what was handed in is changed: %v, %v", l, r)
	}
}

// TestEdgesTogether pairs all numbers at and beside the ends, and small ones, odd and even.
func TestEdgesTogether(t *testing.T) {
	edges := []int32{0, 1, -1, 2, -2, 3, -3, 4, -4, 5, -5, 101, -102, 1 << 30, -1 << 30, 1<<30 - 1, -1<<30 - 1, math.MaxInt32, math.MaxInt32 - 1, math.MinInt32, math.MinInt32 + 1}
	sum := newMixer()
	for _, x := range edges {
		for _, y := range edges {
			holdPair(t, [][]int32{{x}}, [][]int32{{y}}, &sum)
			holdPair(t, [][]int32{{x, y}, {y, x}}, [][]int32{{y, y}, {x, x}}, &sum)
		}
	}
}

func TestPairsWrittenOut(t *testing.T) {
	const low, high = math.MinInt32, math.MaxInt32
	for _, c := range []struct{ l, r, m, s int32 }{
		{0, 0, 0, 0}, {5, 2, 3, 1}, {2, 5, 3, -2}, {-5, 2, -2, -4}, {-2, -5, -4, 1}, {-5, -2, -4, -2}, {5, -2, 1, 3}, {4, 2, 3, 1}, {-4, -2, -3, -1}, {-1, 0, -1, -1}, {0, -1, -1, 0},
		{-101, -102, -102, 0}, {high, high, high, 0}, {low, low, low, 0}, {high, low, -1, high}, {low, high, -1, low}, {0, low, -1 << 30, 1 << 30}, {0, high, 1<<30 - 1, -1 << 30},
	} {
		m, s, e := Middle([][]int32{{c.l}}, [][]int32{{c.r}})
		if e != api.OK || m[0][0] != c.m || s[0][0] != c.s {
			t.Errorf("P13.3: Middle of %d, %d: %v, %v, %d, not %d, %d", c.l, c.r, m, s, e, c.m, c.s)
		}
	}
	for _, c := range []struct{ m, s, l, r int32 }{
		{0, 0, 0, 0}, {3, 1, 4, 2}, {3, -2, 1, 5}, {-4, -2, -6, -2}, {100, 0, 100, 100},
		{high, 1, high, high - 1}, {1, high, high, 1 - high}, {high, -1, high - 1, high}, {low, 1, low + 1, low}, {low, -1, low, low + 1},
		{high, high, high, 0}, {low, low, low, 0}, {low, high, -1, low}, {high, low, -1, high}, {0, low, low, high}, {-1, low, low, high}, {-2, low, low, high - 1},
	} {
		l, r, e := Sides([][]int32{{c.m}}, [][]int32{{c.s}})
		if e != api.OK || l[0][0] != c.l || r[0][0] != c.r {
			t.Errorf("P13.3: Sides of %d, %d: %v, %v, %d, not %d, %d", c.m, c.s, l, r, e, c.l, c.r)
		}
	}
}

func TestJoinsWrittenOut(t *testing.T) {
	for _, c := range []struct {
		l, r [][]int32
		want []bool
	}{
		// One band alone is the last one.
		{[][]int32{{100}}, [][]int32{{100}}, []bool{false}},
		// Alike and opposite: better; the last band never.
		{[][]int32{{100, 7}, {-101, 9}}, [][]int32{{100, 7}, {-102, 9}}, []bool{true, false}},
		{[][]int32{{100, 100, 100}}, [][]int32{{100, -100, 100}}, []bool{true, true, false}},
		// One channel silent: worse (6 and 0, but 5 and 5).
		{[][]int32{{100, 1}}, [][]int32{{0, 1}}, []bool{false, false}},
		{[][]int32{{0, 1}}, [][]int32{{100, 1}}, []bool{false, false}},
		// Both the same: scales of 0 and 0 either way; 2 and 0, and joined 1 and 1.
		{[][]int32{{0, 0}}, [][]int32{{0, 0}}, []bool{false, false}},
		{[][]int32{{1, 0}}, [][]int32{{0, 0}}, []bool{false, false}},
		{[][]int32{{4, 0}}, [][]int32{{0, 0}}, []bool{false, false}},
		// Scales of 1 and 0, and joined 0 and 0.
		{[][]int32{{2, 0}}, [][]int32{{0, 0}}, []bool{true, false}},
		// The channels' greatest numbers stand in blocks of their own.
		{[][]int32{{64, 0}, {0, 0}}, [][]int32{{0, 0}, {64, 0}}, []bool{true, false}},
		{[][]int32{{127, 0}, {0, 0}}, [][]int32{{1, 0}, {127, 0}}, []bool{false, false}},
		// Too loud for any scale: 15 and 15, or 15 and 0.
		{[][]int32{{math.MinInt32, 1}}, [][]int32{{math.MinInt32, 1}}, []bool{true, false}},
		{[][]int32{{math.MinInt32, 1}}, [][]int32{{math.MaxInt32, 1}}, []bool{true, false}},
		{[][]int32{{math.MinInt32, 1}}, [][]int32{{0, 1}}, []bool{false, false}},
	} {
		if got, e := Joins(c.l, c.r); e != api.OK || !slices.Equal(got, c.want) {
			t.Errorf("P13.3: Joins(%v, %v): %v, %d, not %v", c.l, c.r, got, e, c.want)
		}
	}
	for bands := 1; bands <= 8; bands++ {
		for _, blocks := range []int{1, 2, 16} {
			joins, e := Joins(filled(blocks, bands, 1000), filled(blocks, bands, 1000))
			want := slices.Repeat([]bool{true}, bands)
			want[bands-1] = false
			if e != api.OK || !slices.Equal(joins, want) {
				t.Errorf("P13.3: Joins of %d bands that are alike: %v, %d", bands, joins, e)
			}
		}
	}
}

// noPlanes are lists that are none, each for another reason.
func noPlanes() [][][]int32 {
	many := filled(40, 4, 1)
	many[39] = many[39][:3]
	return [][][]int32{
		nil, {}, {nil}, {{}}, {nil, nil}, {{}, {}}, filled(1, 9, 1), filled(4, 9, 1), filled(3, 100, 1),
		{{1}, {1, 2}}, {{1, 2}, {1}}, {{1, 2}, nil}, {nil, {1, 2}}, {{1, 2}, {}}, {{}, {1, 2}}, {{1, 2}, {1, 2}, {1, 2, 3}}, {{1, 2}, nil, {1, 2}},
		{{1, 2, 3, 4, 5, 6, 7, 8}, {1, 2, 3, 4, 5, 6, 7, 8, 9}}, {{1, 2, 3, 4, 5, 6, 7, 8, 9}, {1, 2, 3, 4, 5, 6, 7, 8}}, many,
	}
}

func TestNoPlane(t *testing.T) {
	for _, p := range noPlanes() {
		if got, e := Scales(p); len(got) != 0 || e != api.ErrArg {
			t.Errorf("P13.1: Scales(%v): %v, %d", p, got, e)
		}
	}
}

func refusePair(t *testing.T, a, b [][]int32) {
	t.Helper()
	keptA, keptB := copied(a), copied(b)
	if m, s, e := Middle(a, b); len(m) != 0 || len(s) != 0 || e != api.ErrArg {
		t.Errorf("P13.3: Middle(%v, %v): %v, %v, %d", a, b, m, s, e)
	}
	if l, r, e := Sides(a, b); len(l) != 0 || len(r) != 0 || e != api.ErrArg {
		t.Errorf("P13.3: Sides(%v, %v): %v, %v, %d", a, b, l, r, e)
	}
	if joins, e := Joins(a, b); len(joins) != 0 || e != api.ErrArg {
		t.Errorf("P13.3: Joins(%v, %v): %v, %d", a, b, joins, e)
	}
	if !samePlane(a, keptA) || !samePlane(b, keptB) {
		t.Errorf("R2: %v, %v are %v, %v after an error", keptA, keptB, a, b)
	}
}

func TestNoPair(t *testing.T) {
	// Of the good ones some have as many blocks, some as many bands as what is wrong.
	good := [][][]int32{filled(1, 1, 5), filled(1, 2, 5), filled(2, 2, 5), filled(3, 2, 5), filled(2, 8, 5), filled(40, 4, 5)}
	for _, wrong := range noPlanes() {
		refusePair(t, wrong, wrong)
		refusePair(t, wrong, copied(wrong))
		for _, p := range good {
			refusePair(t, p, wrong)
			refusePair(t, wrong, p)
		}
	}
	for _, c := range [][4]int{{1, 1, 2, 1}, {1, 1, 1, 2}, {4, 8, 4, 7}, {4, 8, 3, 8}, {4, 4, 4, 8}, {16, 4, 15, 4}, {2, 4, 4, 2}} {
		a, b := filled(c[0], c[1], 5), filled(c[2], c[3], 5)
		refusePair(t, a, b)
		refusePair(t, b, a)
	}
}

// spoil overwrites all that a plane reaches.
func spoil(p [][]int32) {
	p = p[:cap(p)]
	for i := range p {
		block := p[i][:cap(p[i])]
		for k := range block {
			block[k] = -77
		}
		p[i] = nil
	}
}

func TestPlanesToldAreTheCallers(t *testing.T) {
	for name, call := range map[string]func(a, b [][]int32) ([][]int32, [][]int32, api.Errno){"Middle": Middle, "Sides": Sides} {
		for _, blocks := range []int{1, 2, 5} {
			d := &drawer{seed: 9}
			l, r := d.pair(blocks, 3)
			keptL, keptR := copied(l), copied(r)
			first, second, _ := call(l, r)
			wantF, wantS := copied(first), copied(second)
			spoil(l)
			spoil(r)
			if !samePlane(first, wantF) || !samePlane(second, wantS) {
				t.Fatalf("R4: what %s told hangs on what was handed in", name)
			}
			againF, againS, _ := call(keptL, keptR)
			// Each block is spoilt in turn: those of both planes behind it must stay.
			for i := range first {
				for _, p := range [][][]int32{first, second} {
					block := p[i][:cap(p[i])]
					for k := range block {
						block[k] = -77
					}
				}
				if !samePlane(first[i+1:], wantF[i+1:]) || !samePlane(second[i+1:], wantS[i+1:]) {
					t.Fatalf("R4: blocks that %s told share memory", name)
				}
			}
			spoil(first)
			if i := len(second) - 1; len(second[i]) != 3 {
				t.Fatalf("R4: the planes that %s told share memory", name)
			}
			spoil(second)
			if !samePlane(againF, wantF) || !samePlane(againS, wantS) {
				t.Fatalf("R4: two answers of %s share memory", name)
			}
			moreF, moreS, e := call(keptL, keptR)
			if e != api.OK || !samePlane(moreF, wantF) || !samePlane(moreS, wantS) {
				t.Fatalf("R6: %s tells otherwise after an answer was changed", name)
			}
		}
	}
}

// TestSidesOfOnePlaneTwice hands the same memory in as both planes.
func TestSidesOfOnePlaneTwice(t *testing.T) {
	p := [][]int32{{5, -7}, {math.MaxInt32, math.MinInt32}}
	sum := newMixer()
	holdPair(t, p, p, &sum)
	block := []int32{3, -3}
	holdPair(t, [][]int32{block, block}, [][]int32{block, block}, &sum)
}

func TestListsToldAreTheCallers(t *testing.T) {
	l, r := [][]int32{{100, 7, 300}, {-101, 9, -4}}, [][]int32{{100, 0, 300}, {-102, 0, -4}}
	keptL, keptR := copied(l), copied(r)
	scales, _ := Scales(l)
	joins, _ := Joins(l, r)
	wantScales, wantJoins := []int{6, 3, 8}, []bool{true, false, false}
	spoil(l)
	spoil(r)
	if !slices.Equal(scales, wantScales) || !slices.Equal(joins, wantJoins) {
		t.Fatalf("R4: %v, %v hang on what was handed in", scales, joins)
	}
	for i := range scales {
		scales[i], joins[i] = -77, true
	}
	scales, _ = Scales(keptL)
	joins, _ = Joins(keptL, keptR)
	if !slices.Equal(scales, wantScales) || !slices.Equal(joins, wantJoins) {
		t.Fatalf("R6: %v, %v are told after an answer was changed", scales, joins)
	}
}
