package pcm

import (
	"math"
	"math/big"
	"math/rand"
	"slices"
	"testing"

	"psaltery/api"
)

const low, high = math.MinInt16, math.MaxInt16

// noise is samples of both signs, the least and the greatest among them.
func noise(r *rand.Rand, n int) []int16 {
	l := make([]int16, n)
	for i := range l {
		switch r.Intn(8) {
		case 0:
			l[i] = low
		case 1:
			l[i] = high
		default:
			l[i] = int16(r.Intn(1<<16) - 1<<15)
		}
	}
	return l
}

// spoil changes a list as far as its memory goes.
func spoil(l []int16) {
	for i := range l[:cap(l)] {
		l[:cap(l)][i] ^= 0x5a5a
	}
}

func sameLists(a, b [][]int16) bool { return slices.EqualFunc(a, b, slices.Equal[[]int16]) }

func TestPartsAreEachChannelsSamples(t *testing.T) {
	for _, c := range []struct {
		l    []int16
		c    int
		want [][]int16
	}{
		{nil, 1, [][]int16{{}}},
		{[]int16{}, 1, [][]int16{{}}},
		{nil, 2, [][]int16{{}, {}}},
		{[]int16{}, 2, [][]int16{{}, {}}},
		{[]int16{7}, 1, [][]int16{{7}}},
		{[]int16{low}, 1, [][]int16{{low}}},
		{[]int16{7, -8}, 1, [][]int16{{7, -8}}},
		{[]int16{7, -8}, 2, [][]int16{{7}, {-8}}},
		{[]int16{1, 2, 3, 4}, 2, [][]int16{{1, 3}, {2, 4}}},
		{[]int16{1, 2, 3, 4}, 1, [][]int16{{1, 2, 3, 4}}},
		{[]int16{low, high, 0, -1, 5, 6}, 2, [][]int16{{low, 0, 5}, {high, -1, 6}}},
		{[]int16{low, high, 0}, 1, [][]int16{{low, high, 0}}},
	} {
		if got, e := Part(c.l, c.c); e != api.OK || !sameLists(got, c.want) {
			t.Errorf("P10.1: Part(%v, %d): %v, error %d, not %v", c.l, c.c, got, e, c.want)
		}
		if got, e := Weave(c.want); e != api.OK || !slices.Equal(got, c.l) {
			t.Errorf("P10.1: Weave(%v): %v, error %d, not %v", c.want, got, e, c.l)
		}
	}
	if got, e := Weave([][]int16{nil}); e != api.OK || len(got) != 0 {
		t.Errorf("P10.1: Weave of one channel of nothing: %v, error %d", got, e)
	}
	if got, e := Weave([][]int16{nil, {}}); e != api.OK || len(got) != 0 {
		t.Errorf("P10.1: Weave of two channels of nothing: %v, error %d", got, e)
	}
}

func TestWeaveAndPartUndoOneAnother(t *testing.T) {
	r := rand.New(rand.NewSource(10))
	for _, n := range []int{0, 1, 2, 3, 5, 40, 121, 4096, 70001} {
		for c := 1; c <= 2; c++ {
			l := noise(r, n*c)
			parts, e := Part(l, c)
			if e != api.OK || len(parts) != c {
				t.Fatalf("P10.1: Part of %d samples of %d channels: %d parts, error %d", len(l), c, len(parts), e)
			}
			for k, part := range parts {
				for i, sample := range part {
					if len(part) != n || sample != l[i*c+k] {
						t.Fatalf("P10.1: channel %d of %d: %d samples, the one at %d is %d", k, c, len(part), i, sample)
					}
				}
			}
			if again, e := Weave(parts); e != api.OK || !slices.Equal(again, l) {
				t.Errorf("P10.3: Weave of Part of %d samples of %d channels is something else, error %d", len(l), c, e)
			}
			channels := make([][]int16, c)
			for k := range channels {
				channels[k] = noise(r, n)
			}
			woven, e := Weave(channels)
			if e != api.OK || len(woven) != n*c {
				t.Fatalf("P10.1: Weave: %d samples, error %d", len(woven), e)
			}
			if again, e := Part(woven, c); e != api.OK || !sameLists(again, channels) {
				t.Errorf("P10.3: Part of Weave of %d samples of each of %d channels is something else, error %d", n, c, e)
			}
		}
	}
}

func TestPartAndWeaveOfWhatCantBe(t *testing.T) {
	lists := [][]int16{nil, {}, {1}, {1, 2}, {1, 2, 3}, {1, 2, 3, 4, 5, 6}}
	for _, c := range []int{0, 3, 4, 6, -1, -2, -3, 1 << 32, 1<<32 + 1, 1<<32 + 2, -1<<32 + 1, math.MinInt, math.MinInt + 1, math.MinInt + 2, math.MaxInt, math.MaxInt - 1} {
		for _, l := range lists {
			if got, e := Part(l, c); e != api.ErrArg || len(got) != 0 {
				t.Errorf("P10.1: Part(%v, %d): %v, error %d", l, c, got, e)
			}
		}
	}
	for _, n := range []int{1, 3, 5, 4095} {
		if got, e := Part(make([]int16, n), 2); e != api.ErrArg || len(got) != 0 {
			t.Errorf("P10.1: Part of %d samples in two channels: %v, error %d", n, got, e)
		}
	}
	for _, l := range [][][]int16{
		nil, {}, {nil, nil, nil}, {{1}, {2}, {3}}, {{}, {}, {}, {}}, {{1}, {}}, {{}, {1}}, {{1}, nil}, {nil, {1}},
		{{1, 2}, {3}}, {{1}, {2, 3}}, {{1, 2, 3}, {4, 5, 6, 7}}, {{1}, {2}, {}}, {{}, {2}, {}},
	} {
		if got, e := Weave(l); e != api.ErrArg || len(got) != 0 {
			t.Errorf("P10.1: Weave(%v): %v, error %d", l, got, e)
		}
	}
}

func TestPartAndWeaveShareNoMemory(t *testing.T) {
	r := rand.New(rand.NewSource(11))
	for c := 1; c <= 2; c++ {
		l := noise(r, 12)
		given := slices.Clone(l)
		parts, _ := Part(l, c)
		want, _ := Part(given, c)
		if !slices.Equal(l, given) {
			t.Error("R4: Part changed what it was given")
		}
		spoil(l)
		if !sameLists(parts, want) {
			t.Error("R4: what Part told changes with what it was given")
		}
		spoiled := slices.Clone(l)
		spoil(parts[0])
		if !slices.Equal(l, spoiled) || c == 2 && !slices.Equal(parts[1], want[1]) {
			t.Error("R4: a told channel lies in something else")
		}
		channels := [][]int16{noise(r, 6), noise(r, 6)}[:c]
		before := [][]int16{slices.Clone(channels[0]), slices.Clone(channels[c-1])}[:c]
		woven, _ := Weave(channels)
		told := slices.Clone(woven)
		if !sameLists(channels, before) {
			t.Error("R4: Weave changed what it was given")
		}
		spoil(woven)
		if !sameLists(channels, before) {
			t.Error("R4: what was given changes with what Weave told")
		}
		woven, _ = Weave(channels)
		for _, channel := range channels {
			spoil(channel)
		}
		if !slices.Equal(woven, told) {
			t.Error("R4: what Weave told changes with what it was given")
		}
	}
}

func TestPeakAndEnergy(t *testing.T) {
	for _, c := range []struct {
		l      []int16
		peak   int
		energy uint64
	}{
		{nil, 0, 0},
		{[]int16{}, 0, 0},
		{[]int16{0}, 0, 0},
		{[]int16{0, 0, 0}, 0, 0},
		{[]int16{1}, 1, 1},
		{[]int16{-1}, 1, 1},
		{[]int16{3, -4}, 4, 25},
		{[]int16{4, -3}, 4, 25},
		{[]int16{-5, 2, 4}, 5, 45},
		{[]int16{high}, 32767, 1073676289},
		{[]int16{low}, 32768, 1073741824},
		{[]int16{high, low}, 32768, 2147418113},
		{[]int16{low, high}, 32768, 2147418113},
		{[]int16{low, low, low, low, low}, 32768, 5368709120},
		{[]int16{-32767, high}, 32767, 2147352578},
	} {
		if got := Peak(c.l); got != c.peak {
			t.Errorf("P10.1: Peak(%v): %d, not %d", c.l, got, c.peak)
		}
		if got := Energy(c.l); got != c.energy {
			t.Errorf("P10.1: Energy(%v): %d, not %d", c.l, got, c.energy)
		}
	}
	if got := Energy(slices.Repeat([]int16{low}, 1<<20)); got != 1<<50 {
		t.Errorf("P10.1: Energy of 2^20 least samples: %d", got)
	}
}

func TestPeakAndEnergyOfNoise(t *testing.T) {
	r := rand.New(rand.NewSource(12))
	for n := range 200 {
		l := noise(r, n*n)
		if n%2 == 0 {
			for i := range l {
				l[i] /= int16(1 + n)
			}
		}
		given := slices.Clone(l)
		peak, energy := 0, new(big.Int)
		for _, sample := range l {
			wide := big.NewInt(int64(sample))
			energy.Add(energy, new(big.Int).Mul(wide, wide))
			if without := int(new(big.Int).Abs(wide).Int64()); without > peak {
				peak = without
			}
		}
		if got := Peak(l); got != peak {
			t.Errorf("P10.1: Peak of %d samples: %d, not %d", len(l), got, peak)
		}
		if got := Energy(l); got != energy.Uint64() {
			t.Errorf("P10.1: Energy of %d samples: %d, not %d", len(l), got, energy)
		}
		if !slices.Equal(l, given) {
			t.Errorf("R4: Peak or Energy changed what it was given")
		}
	}
}

func newStore(t *testing.T, most int) *Store {
	t.Helper()
	s, e := NewStore(most)
	if e != api.OK || s == nil || s.Len() != 0 {
		t.Fatalf("P10.2: NewStore(%d): error %d, %d samples", most, e, s.Len())
	}
	return s
}

func put(t *testing.T, s *Store, l []int16, want api.Errno, many int) {
	t.Helper()
	given := slices.Clone(l)
	if e := s.Put(l); e != want || s.Len() != many {
		t.Fatalf("P10.2: Put of %d samples: error %d, %d samples are there, not %d", len(l), e, s.Len(), many)
	}
	if !slices.Equal(l, given) {
		t.Fatal("R4: Put changed what it was given")
	}
}

func take(t *testing.T, s *Store, n int, want []int16, many int) []int16 {
	t.Helper()
	got := s.Take(n)
	if !slices.Equal(got, want) || s.Len() != many {
		t.Fatalf("P10.2: Take(%d): %v, and %d samples are left, not %v and %d", n, got, s.Len(), want, many)
	}
	return got
}

func TestNewStoreOfNumbers(t *testing.T) {
	for _, most := range []int{-1, -2, -4096, 4097, 4098, 8192, 1 << 16, 1 << 32, 1<<32 + 1, math.MinInt, math.MinInt + 1, math.MaxInt, math.MaxInt - 1} {
		if s, e := NewStore(most); e != api.ErrArg || s != nil {
			t.Errorf("P10.2: NewStore(%d): %v, error %d", most, s, e)
		}
	}
	r := rand.New(rand.NewSource(13))
	for _, most := range []int{0, 1, 2, 3, 100, 4095, 4096} {
		s := newStore(t, most)
		all := noise(r, most)
		put(t, s, noise(r, most+1), api.ErrQueue, 0)
		put(t, s, all[:most/2], api.OK, most/2)
		put(t, s, noise(r, most-most/2+1), api.ErrQueue, most/2)
		put(t, s, noise(r, 10000), api.ErrQueue, most/2)
		put(t, s, all[most/2:], api.OK, most)
		put(t, s, []int16{1}, api.ErrQueue, most)
		put(t, s, nil, api.OK, most)
		put(t, s, []int16{}, api.OK, most)
		take(t, s, most, all, 0)
		put(t, s, all, api.OK, most)
		put(t, s, []int16{1}, api.ErrQueue, most)
		take(t, s, most+1, append(slices.Clone(all), 0)[:min(most+1, 4096)], 0)
	}
}

func TestStoreByHand(t *testing.T) {
	s := newStore(t, 5)
	put(t, s, []int16{1}, api.OK, 1)
	put(t, s, []int16{-2, 3}, api.OK, 3)
	put(t, s, []int16{4, 5, 6}, api.ErrQueue, 3)
	put(t, s, []int16{low, high}, api.OK, 5)
	take(t, s, 2, []int16{1, -2}, 3)
	take(t, s, 2, []int16{3, low}, 1)
	put(t, s, []int16{7, 8, 9, 10}, api.OK, 5)
	take(t, s, 1, []int16{high}, 4)
	put(t, s, []int16{11, 12}, api.ErrQueue, 4)
	put(t, s, []int16{11}, api.OK, 5)
	take(t, s, 3, []int16{7, 8, 9}, 2)
	take(t, s, 4, []int16{10, 11, 0, 0}, 0)
	take(t, s, 3, []int16{0, 0, 0}, 0)
	put(t, s, []int16{13}, api.OK, 1)
	take(t, s, 1, []int16{13}, 0)
}

func TestTakeOfNumbers(t *testing.T) {
	r := rand.New(rand.NewSource(14))
	for _, most := range []int{0, 3, 4095, 4096} {
		for _, many := range []int{0, 1, most - 1, most} {
			if many < 0 || many > most {
				continue
			}
			for _, n := range []int{math.MinInt, math.MinInt + 1, -4096, -1, 0, 1, many - 1, many, many + 1, 4095, 4096, 4097, 1 << 16, 1 << 32, 1<<32 + 1, math.MaxInt - 1, math.MaxInt} {
				s := newStore(t, most)
				all := noise(r, many)
				put(t, s, all, api.OK, many)
				told := max(0, min(n, 4096))
				want := append(slices.Clone(all), make([]int16, 4096)...)[:told]
				take(t, s, n, want, max(0, many-told))
				rest := slices.Clone(all[min(told, many):])
				take(t, s, len(rest)+1, append(rest, 0)[:min(len(rest)+1, 4096)], 0)
			}
		}
	}
}

func TestStoreIsCleared(t *testing.T) {
	s := newStore(t, 4)
	s.Clear()
	take(t, s, 2, []int16{0, 0}, 0)
	put(t, s, []int16{1, 2, 3, 4}, api.OK, 4)
	take(t, s, 1, []int16{1}, 3)
	s.Clear()
	if s.Len() != 0 {
		t.Errorf("P10.2: %d samples behind Clear", s.Len())
	}
	s.Clear()
	take(t, s, 3, []int16{0, 0, 0}, 0)
	put(t, s, []int16{5, 6, 7, 8, 9}, api.ErrQueue, 0)
	put(t, s, []int16{5, 6, 7, 8}, api.OK, 4)
	s.Clear()
	put(t, s, []int16{-9}, api.OK, 1)
	take(t, s, 2, []int16{-9, 0}, 0)
}

// TestStoreAsOneList goes through long turns, which a model takes down as one list that only grows, with a place up to which all was taken.
func TestStoreAsOneList(t *testing.T) {
	for seed := range int64(60) {
		r := rand.New(rand.NewSource(seed))
		most := []int{0, 1, 2, 7, 64, 4095, 4096}[r.Intn(7)]
		s := newStore(t, most)
		var all []int16
		gone := 0
		for range 400 {
			switch r.Intn(20) {
			case 0:
				s.Clear()
				gone = len(all)
			case 1, 2, 3, 4, 5, 6, 7, 8, 9:
				n := r.Intn(most/(1+r.Intn(8)) + 3)
				if len(all)-gone+n > most {
					put(t, s, noise(r, n), api.ErrQueue, len(all)-gone)
					break
				}
				l := noise(r, n)
				all = append(all, l...)
				put(t, s, l, api.OK, len(all)-gone)
				spoil(l)
			default:
				n := r.Intn(most/(1+r.Intn(8))+3) - 1
				to := min(gone+max(n, 0), len(all))
				want := append(slices.Clone(all[gone:to]), make([]int16, max(n, 0)-(to-gone))...)
				want = want[:min(len(want), 4096)]
				gone = to
				spoil(take(t, s, n, want, len(all)-gone))
			}
			if s.Len() != len(all)-gone {
				t.Fatalf("P10.3: %d samples, not %d", s.Len(), len(all)-gone)
			}
		}
	}
}

func TestStoresAreApart(t *testing.T) {
	a, b := newStore(t, 6), newStore(t, 6)
	l := []int16{1, 2, 3, 4, 5, 6}
	put(t, a, l, api.OK, 6)
	put(t, b, l[:3], api.OK, 3)
	spoil(l)
	told := take(t, a, 2, []int16{1, 2}, 4)
	spoil(told)
	take(t, b, 1, []int16{1}, 2)
	a.Clear()
	take(t, b, 3, []int16{2, 3, 0}, 0)
	put(t, a, []int16{8, 9}, api.OK, 2)
	take(t, b, 1, []int16{0}, 0)
	kept := take(t, a, 2, []int16{8, 9}, 0)
	put(t, a, []int16{-1, -2, -3, -4, -5, -6}, api.OK, 6)
	if !slices.Equal(kept, []int16{8, 9}) || !slices.Equal(told, []int16{1 ^ 0x5a5a, 2 ^ 0x5a5a}) {
		t.Error("R4: what was taken changes with a later put")
	}
	kept = append(kept, 77)
	take(t, a, 6, []int16{-1, -2, -3, -4, -5, -6}, 0)
}

func TestStoreThatIsNil(t *testing.T) {
	var s *Store
	for _, l := range [][]int16{nil, {}, {1}, make([]int16, 5000)} {
		if e := s.Put(l); e != api.ErrNil {
			t.Errorf("P10.2: Put of %d samples of nil: error %d", len(l), e)
		}
	}
	for _, n := range []int{math.MinInt, -1, 0, 1, 4096, 4097, math.MaxInt} {
		if l := s.Take(n); len(l) != 0 {
			t.Errorf("P10.2: Take(%d) of nil: %d samples", n, len(l))
		}
	}
	s.Clear()
	if s.Len() != 0 {
		t.Errorf("P10.2: Len of nil: %d", s.Len())
	}
}
