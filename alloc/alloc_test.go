package alloc

import (
	"math"
	"slices"
	"testing"

	"psaltery/api"
)

func sub(rate, channels, bands, method, pool int) api.Format {
	return api.Format{Codec: api.Sub, Rate: rate, Channels: channels, Bands: bands, Blocks: 4, Method: method, Pool: pool}
}

// greatestPool is the greatest that a format of so many bands may have.
func greatestPool(channels, bands int) int { return min(16*channels*bands, 250) }

// modelOffset has the chapter's offsets as it writes them, case by case.
func modelOffset(bands, rate, band int) int {
	switch {
	case bands == 4 && rate == 0:
		return []int{-1, 0, 0, 0}[band]
	case bands == 4:
		return []int{-2, 0, 0, 1}[band]
	case rate == 0:
		return []int{-2, 0, 0, 0, 0, 0, 0, 1}[band]
	case rate == 1:
		return []int{-3, 0, 0, 0, 0, 0, 1, 2}[band]
	}
	return []int{-4, 0, 0, 0, 0, 0, 1, 2}[band]
}

func modelNeed(f api.Format, band, scale int) int {
	if f.Method == 1 {
		return scale
	}
	if scale == 0 {
		return -5
	}
	n := scale - modelOffset(f.Bands, f.Rate, band)
	if n > 0 {
		n /= 2
	}
	return n
}

// modelShare follows the chapter's words over one flat list of bands in the order in which they are gone through.
func modelShare(f api.Format, scales [][]int) [][]int {
	var needs []int
	for band := 0; band < f.Bands; band++ {
		for channel := 0; channel < f.Channels; channel++ {
			needs = append(needs, modelNeed(f, band, scales[channel][band]))
		}
	}
	bits := modelBits(needs, f.Pool)
	told := make([][]int, f.Channels)
	for i, b := range bits {
		told[i%f.Channels] = append(told[i%f.Channels], b)
	}
	return told
}

func modelCosts(needs []int, s int) int {
	costs := 0
	for _, need := range needs {
		if need == s+1 {
			costs += 2
		} else if need > s+1 && need < s+16 {
			costs++
		}
	}
	return costs
}

func modelBits(needs []int, pool int) []int {
	s, sum := slices.Max(needs)+1, 0
	for sum+modelCosts(needs, s) < pool {
		sum += modelCosts(needs, s)
		s--
	}
	if costs := modelCosts(needs, s); sum+costs == pool {
		sum += costs
		s--
	}
	bits := make([]int, len(needs))
	for i, need := range needs {
		if need >= s+2 {
			bits[i] = min(need-s, 16)
		}
	}
	for i := 0; i < len(bits) && sum < pool; i++ {
		if bits[i] >= 2 && bits[i] <= 15 {
			bits[i]++
			sum++
		} else if needs[i] == s+1 && pool > sum+1 {
			bits[i] = 2
			sum += 2
		}
	}
	for i := 0; i < len(bits) && sum < pool; i++ {
		if bits[i] >= 2 && bits[i] <= 15 {
			bits[i]++
			sum++
		}
	}
	return bits
}

func same(a, b [][]int) bool {
	return slices.EqualFunc(a, b, func(x, y []int) bool { return slices.Equal(x, y) })
}

func copied(list [][]int) [][]int {
	told := make([][]int, len(list))
	for i := range list {
		told[i] = slices.Clone(list[i])
	}
	return told
}

// bounds asks P12.3, and tells whether one bit was left.
func bounds(t *testing.T, f api.Format, scales, bits [][]int) bool {
	t.Helper()
	sum := 0
	for _, channel := range bits {
		for _, b := range channel {
			if b < 0 || b == 1 || b > 16 {
				t.Fatalf("P12.3: %+v with %v has a band of %d bits", f, scales, b)
			}
			sum += b
		}
	}
	if sum != f.Pool && sum != f.Pool-1 {
		t.Fatalf("P12.3: %+v with %v has %d bits in all", f, scales, sum)
	}
	return sum < f.Pool
}

// patterns are scales that are all alike, that rise, that fall, that have loud bands alone, and that are mixed.
func patterns(channels, bands int, chance func() int) [][][]int {
	make2 := func(scale func(channel, band int) int) [][]int {
		scales := make([][]int, channels)
		for c := range scales {
			for b := 0; b < bands; b++ {
				scales[c] = append(scales[c], scale(c, b))
			}
		}
		return scales
	}
	only := func(is bool) int {
		if is {
			return 15
		}
		return 0
	}
	var list [][][]int
	for v := 0; v < 16; v++ {
		list = append(list, make2(func(_, _ int) int { return v }))
	}
	list = append(list, make2(func(c, b int) int { return min(15, 2*b+c) }))
	list = append(list, make2(func(c, b int) int { return max(0, 15-2*b-c) }))
	list = append(list, make2(func(_, b int) int { return only(b == 0) }))
	list = append(list, make2(func(c, b int) int { return only(b == bands-1 && c == channels-1) }))
	for i := 0; i < 6; i++ {
		list = append(list, make2(func(_, _ int) int { return chance() % 16 }))
	}
	return list
}

// TestEveryPool goes through all that Share hangs on; the sums were reckoned apart, in another language.
func TestEveryPool(t *testing.T) {
	sum, calls, less, seed := uint64(14695981039346656037), 0, 0, 1
	chance := func() int {
		seed = (seed*1103515245 + 12345) % (1 << 31)
		return seed >> 16
	}
	mix := func(x int) { sum = (sum ^ uint64(x)) * 1099511628211 }
	for i := 0; i < 32; i++ {
		rate, channels, bands, method := i/8, 1+i/4%2, 4+4*(i/2%2), i%2
		list := patterns(channels, bands, chance)
		for pool := 2; pool <= greatestPool(channels, bands); pool++ {
			f := sub(rate, channels, bands, method, pool)
			for _, scales := range list {
				bits, needs := hold(t, f, scales)
				for c := range bits {
					for b := range bits[c] {
						mix(bits[c][b])
						mix(needs[c][b])
					}
				}
				calls++
				if bounds(t, f, scales, bits) {
					less++
				}
			}
		}
	}
	if calls != wantCalls || less != wantLess || sum != wantSum {
		t.Errorf("P12.1, P12.2: %d calls, %d with a bit left, sum %d", calls, less, sum)
	}
}

const (
	wantCalls = 117728
	wantLess  = 38
	wantSum   = uint64(11387110925200354812)
)

// hold asks both calls, and holds them against the model.
func hold(t *testing.T, f api.Format, scales [][]int) (bits, needs [][]int) {
	t.Helper()
	needs, e := Needs(f, scales)
	want := copied(scales)
	for c := range want {
		for b := range want[c] {
			want[c][b] = modelNeed(f, b, want[c][b])
		}
	}
	if e != api.OK || !same(needs, want) {
		t.Fatalf("P12.1: Needs of %+v, %v tells %v, %d, not %v", f, scales, needs, e, want)
	}
	bits, e = Share(f, scales)
	if want := modelShare(f, scales); e != api.OK || !same(bits, want) {
		t.Fatalf("P12.2: Share of %+v, %v tells %v, %d, not %v", f, scales, bits, e, want)
	}
	return bits, needs
}

// TestNeedOfEachBand looks at each band alone, at every rate, with every scale.
func TestNeedOfEachBand(t *testing.T) {
	for i := 0; i < 16; i++ {
		rate, channels, bands := i/4, 1+i/2%2, 4+4*(i%2)
		for band := 0; band < bands; band++ {
			for channel := 0; channel < channels; channel++ {
				for scale := 0; scale <= 15; scale++ {
					scales := make([][]int, channels)
					for c := range scales {
						scales[c] = make([]int, bands)
					}
					scales[channel][band] = scale
					for method := 0; method <= 1; method++ {
						f := sub(rate, channels, bands, method, 20)
						hold(t, f, scales)
						f.Blocks, f.Joint = 16, channels-1
						hold(t, f, scales)
					}
				}
			}
		}
	}
}

// TestNeedsByLoudness has a scale of 0, those at their offset, one above it and one below, and the ends, written out.
func TestNeedsByLoudness(t *testing.T) {
	for _, c := range []struct {
		rate         int
		scales, want []int
	}{
		{0, []int{0, 0, 0, 0}, []int{-5, -5, -5, -5}},
		{3, []int{0, 0, 0, 0}, []int{-5, -5, -5, -5}},
		{0, []int{15, 15, 15, 15}, []int{8, 7, 7, 7}},
		{1, []int{15, 15, 15, 15}, []int{8, 7, 7, 7}},
		{0, []int{1, 1, 1, 1}, []int{1, 0, 0, 0}},
		{1, []int{1, 1, 1, 1}, []int{1, 0, 0, 0}},
		{2, []int{2, 2, 2, 2}, []int{2, 1, 1, 0}},
		{3, []int{3, 3, 3, 3}, []int{2, 1, 1, 1}},
		{0, []int{3, 0, 4, 15}, []int{2, -5, 2, 7}},
		{0, []int{0, 0, 0, 0, 0, 0, 0, 0}, []int{-5, -5, -5, -5, -5, -5, -5, -5}},
		{0, []int{1, 1, 1, 1, 1, 1, 1, 1}, []int{1, 0, 0, 0, 0, 0, 0, 0}},
		{0, []int{15, 15, 15, 15, 15, 15, 15, 15}, []int{8, 7, 7, 7, 7, 7, 7, 7}},
		{0, []int{2, 2, 2, 2, 2, 2, 2, 2}, []int{2, 1, 1, 1, 1, 1, 1, 0}},
		{1, []int{1, 1, 1, 1, 1, 1, 1, 1}, []int{2, 0, 0, 0, 0, 0, 0, -1}},
		{1, []int{2, 2, 2, 2, 2, 2, 2, 2}, []int{2, 1, 1, 1, 1, 1, 0, 0}},
		{1, []int{3, 3, 3, 3, 3, 3, 3, 3}, []int{3, 1, 1, 1, 1, 1, 1, 0}},
		{2, []int{1, 1, 1, 1, 1, 1, 1, 1}, []int{2, 0, 0, 0, 0, 0, 0, -1}},
		{2, []int{2, 2, 2, 2, 2, 2, 2, 2}, []int{3, 1, 1, 1, 1, 1, 0, 0}},
		{2, []int{15, 15, 15, 15, 15, 15, 15, 15}, []int{9, 7, 7, 7, 7, 7, 7, 6}},
		{3, []int{4, 4, 4, 4, 4, 4, 4, 4}, []int{4, 2, 2, 2, 2, 2, 1, 1}},
		{3, []int{15, 15, 15, 15, 15, 15, 15, 15}, []int{9, 7, 7, 7, 7, 7, 7, 6}},
	} {
		needs, e := Needs(sub(c.rate, 1, len(c.scales), 0, 2), [][]int{c.scales})
		if e != api.OK || !same(needs, [][]int{c.want}) {
			t.Errorf("P12.1: Needs of %v at rate %d tells %v, %d, not %v", c.scales, c.rate, needs, e, c.want)
		}
	}
}

func TestSharesWrittenOut(t *testing.T) {
	for _, c := range []struct {
		f            api.Format
		scales, want [][]int
	}{
		// The chapter's example.
		{sub(0, 1, 4, 1, 8), [][]int{{3, 0, 0, 0}}, [][]int{{6, 2, 0, 0}}},
		// Costs that are one less than Pool, just Pool, and one more.
		{sub(0, 1, 4, 1, 10), [][]int{{3, 0, 0, 0}}, [][]int{{6, 2, 2, 0}}},
		{sub(0, 1, 4, 1, 11), [][]int{{3, 0, 0, 0}}, [][]int{{5, 2, 2, 2}}},
		{sub(0, 1, 4, 1, 12), [][]int{{3, 0, 0, 0}}, [][]int{{6, 2, 2, 2}}},
		{sub(0, 1, 4, 1, 14), [][]int{{3, 0, 0, 0}}, [][]int{{6, 3, 3, 2}}},
		{sub(0, 1, 4, 1, 15), [][]int{{3, 0, 0, 0}}, [][]int{{6, 3, 3, 3}}},
		{sub(0, 1, 4, 1, 16), [][]int{{3, 0, 0, 0}}, [][]int{{7, 3, 3, 3}}},
		// The least pools, and the greatest.
		{sub(0, 1, 4, 1, 2), [][]int{{3, 0, 0, 0}}, [][]int{{2, 0, 0, 0}}},
		{sub(0, 1, 4, 1, 3), [][]int{{0, 0, 0, 0}}, [][]int{{3, 0, 0, 0}}},
		{sub(0, 1, 4, 1, 63), [][]int{{3, 0, 0, 0}}, [][]int{{16, 16, 16, 15}}},
		{sub(0, 1, 4, 1, 63), [][]int{{15, 0, 7, 3}}, [][]int{{16, 15, 16, 16}}},
		{sub(0, 1, 4, 1, 64), [][]int{{15, 0, 7, 3}}, [][]int{{16, 16, 16, 16}}},
		// One bit is left for a band whose need is s + 1: it stays left when the others have 0 and 16.
		{sub(0, 1, 4, 1, 16), [][]int{{15, 0, 0, 0}}, [][]int{{16, 0, 0, 0}}},
		{sub(0, 1, 4, 1, 17), [][]int{{15, 0, 0, 0}}, [][]int{{16, 0, 0, 0}}},
		{sub(0, 1, 4, 1, 18), [][]int{{15, 0, 0, 0}}, [][]int{{16, 2, 0, 0}}},
		{sub(0, 1, 4, 1, 19), [][]int{{15, 0, 0, 0}}, [][]int{{16, 3, 0, 0}}},
		// A band of 15 bits gets one more, one of 16 none.
		{sub(0, 1, 4, 1, 15), [][]int{{15, 1, 0, 0}}, [][]int{{15, 0, 0, 0}}},
		{sub(0, 1, 4, 1, 16), [][]int{{15, 1, 0, 0}}, [][]int{{16, 0, 0, 0}}},
		{sub(0, 1, 4, 1, 17), [][]int{{15, 1, 0, 0}}, [][]int{{16, 0, 0, 0}}},
		{sub(0, 1, 4, 1, 18), [][]int{{15, 1, 0, 0}}, [][]int{{16, 2, 0, 0}}},
		// The order of the bands of two channels.
		{sub(0, 2, 4, 1, 5), [][]int{{2, 2, 2, 2}, {2, 2, 2, 2}}, [][]int{{3, 0, 0, 0}, {2, 0, 0, 0}}},
		{sub(0, 2, 4, 1, 6), [][]int{{2, 2, 2, 2}, {2, 2, 2, 2}}, [][]int{{2, 2, 0, 0}, {2, 0, 0, 0}}},
		{sub(0, 2, 4, 1, 9), [][]int{{2, 2, 2, 2}, {2, 2, 2, 2}}, [][]int{{3, 2, 0, 0}, {2, 2, 0, 0}}},
		{sub(0, 2, 4, 1, 5), [][]int{{1, 5, 0, 2}, {5, 1, 2, 0}}, [][]int{{0, 2, 0, 0}, {3, 0, 0, 0}}},
		{sub(0, 2, 4, 1, 13), [][]int{{1, 5, 0, 2}, {5, 1, 2, 0}}, [][]int{{0, 5, 0, 0}, {6, 0, 2, 0}}},
		{sub(1, 2, 4, 0, 17), [][]int{{1, 5, 0, 2}, {5, 1, 2, 0}}, [][]int{{3, 4, 0, 0}, {5, 2, 3, 0}}},
		{sub(1, 2, 4, 0, 40), [][]int{{1, 5, 0, 2}, {5, 1, 2, 0}}, [][]int{{7, 8, 0, 5}, {9, 5, 6, 0}}},
	} {
		bits, e := Share(c.f, c.scales)
		if e != api.OK || !same(bits, c.want) {
			t.Errorf("P12.2: Share of pool %d, %v tells %v, %d, not %v", c.f.Pool, c.scales, bits, e, c.want)
		}
		hold(t, c.f, c.scales)
		bounds(t, c.f, c.scales, bits)
	}
}

func refused(t *testing.T, f api.Format, scales [][]int, want api.Errno) {
	t.Helper()
	before := copied(scales)
	if needs, e := Needs(f, scales); e != want || len(needs) != 0 {
		t.Errorf("P12.1: Needs of %+v, %v tells %v, %d, not %d", f, scales, needs, e, want)
	}
	if bits, e := Share(f, scales); e != want || len(bits) != 0 {
		t.Errorf("P12.2: Share of %+v, %v tells %v, %d, not %d", f, scales, bits, e, want)
	}
	if !same(scales, before) {
		t.Errorf("R2: %v are %v after an error", before, scales)
	}
}

func TestWhatIsNoFormatOfSub(t *testing.T) {
	good := sub(0, 1, 4, 1, 8)
	list := []api.Format{
		{},
		{Codec: api.Lap, Channels: 1, Length: 40, Bytes: 20},
		{Codec: api.Lap, Rate: 3, Channels: 2, Length: 120, Bytes: 120},
		{Codec: api.Sub, Channels: 1, Bands: 4, Blocks: 4, Method: 1, Joint: 1, Pool: 8},
	}
	for _, n := range []int{math.MinInt, -1, 17, 251, math.MaxInt} {
		for _, change := range []func(f *api.Format){
			func(f *api.Format) { f.Codec = n },
			func(f *api.Format) { f.Rate = n },
			func(f *api.Format) { f.Channels = n },
			func(f *api.Format) { f.Bands = n },
			func(f *api.Format) { f.Blocks = n },
			func(f *api.Format) { f.Method = n },
			func(f *api.Format) { f.Joint = n },
			func(f *api.Format) { f.Length = n },
			func(f *api.Format) { f.Bytes = n },
		} {
			f := good
			change(&f)
			list = append(list, f)
		}
	}
	for _, pool := range []int{math.MinInt, -1, 0, 1, 65, 250, math.MaxInt} {
		list = append(list, sub(0, 1, 4, 1, pool))
	}
	for _, f := range list {
		for _, scales := range [][][]int{nil, {}, {nil}, {{3, 0, 0, 0}}, {{3, 0, 0, 16}}, {{3, 0, 0}, {1}}} {
			refused(t, f, scales, api.ErrForm)
		}
	}
}

func TestWhatAreNoScales(t *testing.T) {
	one, two := sub(0, 1, 4, 1, 8), sub(2, 2, 8, 0, 30)
	eight := []int{1, 2, 3, 4, 5, 6, 7, 8}
	for _, scales := range [][][]int{nil, {}, {nil}, {{}}, {{1, 2, 3}}, {{1, 2, 3, 4, 5}}, {eight}, {{1, 2, 3, 4}, {1, 2, 3, 4}}, {{1, 2, 3, 4}, nil}, {{1, 2}, {3, 4}}} {
		refused(t, one, scales, api.ErrArg)
	}
	for _, scales := range [][][]int{nil, {}, {eight}, {eight, nil}, {nil, eight}, {eight, eight[:7]}, {eight[:7], eight}, {eight, eight, eight}, {eight, append(slices.Clone(eight), 1)}, {append(slices.Clone(eight), 1), eight}, {eight[:4], eight[:4]}} {
		refused(t, two, scales, api.ErrArg)
	}
	for _, scale := range []int{-1, 16, math.MinInt, math.MaxInt, 1 << 32, -1 << 32} {
		for channel := 0; channel < 2; channel++ {
			for band := 0; band < 8; band++ {
				scales := [][]int{slices.Clone(eight), slices.Clone(eight)}
				scales[channel][band] = scale
				refused(t, two, scales, api.ErrArg)
				if channel == 0 && band < 4 {
					refused(t, one, [][]int{scales[0][:4]}, api.ErrArg)
				}
			}
		}
	}
}

// spoil overwrites all that a told list reaches.
func spoil(list [][]int) {
	list = list[:cap(list)]
	for i := range list {
		row := list[i][:cap(list[i])]
		for k := range row {
			row[k] = -77
		}
		list[i] = nil
	}
}

func TestWhatIsToldIsTheCallers(t *testing.T) {
	for method := 0; method <= 1; method++ {
		f := sub(1, 2, 8, method, 40)
		for name, call := range map[string]func(api.Format, [][]int) ([][]int, api.Errno){"P12.1: Needs": Needs, "P12.2: Share": Share} {
			scales := [][]int{{3, 1, 4, 1, 5, 9, 2, 6}, {5, 3, 5, 8, 9, 7, 9, 3}}
			kept := copied(scales)
			told, _ := call(f, scales)
			want := copied(told)
			if !same(scales, kept) {
				t.Errorf("%s changes what it is handed: %v", name, scales)
			}
			spoil(scales)
			if !same(told, want) {
				t.Errorf("%s: what was told hangs on what was handed in: %v", name, told)
			}
			again, _ := call(f, kept)
			row := told[0][:cap(told[0])]
			for k := range row {
				row[k] = -77
			}
			if !slices.Equal(told[1], want[1]) {
				t.Errorf("%s: two lists of one answer share memory: %v", name, told)
			}
			spoil(told)
			if !same(again, want) {
				t.Errorf("%s: two answers share memory: %v", name, again)
			}
			if more, e := call(f, kept); e != api.OK || !same(more, want) {
				t.Errorf("%s tells %v after an answer was changed, not %v", name, more, want)
			}
		}
	}
}
