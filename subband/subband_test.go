package subband

import (
	"math"
	"slices"
	"testing"

	"psaltery/api"
)

// holdAnalyse holds Analyse of planes, and Planes of what it tells, against the model.
func holdAnalyse(t *testing.T, f api.Format, planes [][][]int32) Params {
	t.Helper()
	kept := copied(planes)
	p, e := Analyse(f, planes)
	if want := modelAnalyse(t, f, kept); e != api.OK || !sameParams(p, want) {
		t.Fatalf("P14.1: Analyse(%+v, %v): %v, %d, not %v", f, kept, p, e, want)
	}
	if !alike(planes, kept) {
		t.Fatalf("R4: Analyse changes what it is handed: %v, not %v", planes, kept)
	}
	holdPlanes(t, f, p)
	return p
}

func holdPlanes(t *testing.T, f api.Format, p Params) [][][]int32 {
	t.Helper()
	kept := copiedParams(p)
	planes, e := Planes(f, p)
	if want := modelPlanes(t, f, kept); e != api.OK || !alike(planes, want) {
		t.Fatalf("P14.1: Planes(%+v, %v): %v, %d, not %v", f, kept, planes, e, want)
	}
	if !sameParams(p, kept) {
		t.Fatalf("R4: Planes changes what it is handed: %v, not %v", p, kept)
	}
	return planes
}

func TestAnalyseAndPlanes(t *testing.T) {
	d := &drawer{seed: 1}
	joined, apart := 0, 0
	for _, f := range everyFormat() {
		for kind := range planeKinds {
			p := holdAnalyse(t, f, drawnPlanes(d, f, kind))
			for _, join := range p.Joins[:f.Bands-1] {
				if join == 1 {
					joined++
				} else if f.Joint == 1 {
					apart++
				}
			}
		}
	}
	// Else the planes would tell nothing of one of both.
	if joined < 1000 || apart < 1000 {
		t.Errorf("P14.1: %d bands were joined, %d weren't", joined, apart)
	}
}

func TestPlanesOfAnyParams(t *testing.T) {
	d := &drawer{seed: 2}
	for _, f := range everyFormat() {
		for range 3 {
			holdPlanes(t, f, drawnParams(t, d, f))
		}
	}
}

// blocksOf has the same block over and over.
func blocksOf(blocks int, block ...int32) [][]int32 {
	return slices.Repeat([][]int32{block}, blocks)
}

// The numbers are those that the chapter's words ask for, reckoned by hand.
func TestAnalyseWrittenOut(t *testing.T) {
	levels := func(f api.Format) api.Format {
		f.Method = 1
		return f
	}
	for _, c := range []struct {
		f      api.Format
		planes [][][]int32
		want   Params
		back   [][][]int32
	}{
		{
			// All 0: the first band alone has bits, two.
			f:      mono(4, 4, 2),
			planes: [][][]int32{blocksOf(4, 0, 0, 0, 0)},
			want:   Params{[]int{0, 0, 0, 0}, [][]int{{0, 0, 0, 0}}, slices.Repeat([][][]int{{{1, 0, 0, 0}}}, 4)},
			back:   [][][]int32{blocksOf(4, 0, 0, 0, 0)},
		},
		{
			// Chapter 12's example: 6, 2, 0, 0 bits of the scales 3, 0, 0, 0.
			f:      levels(mono(4, 4, 8)),
			planes: [][][]int32{{{15, 1, 1, 1}, {-8, -1, 0, 0}, {0, 0, 0, -1}, {-15, 0, -1, 0}}},
			want:   Params{[]int{0, 0, 0, 0}, [][]int{{3, 0, 0, 0}}, [][][]int{{{61, 2, 0, 0}}, {{15, 0, 0, 0}}, {{31, 1, 0, 0}}, {{1, 1, 0, 0}}}},
			back:   [][][]int32{{{15, 1, 0, 0}, {-9, -2, 0, 0}, {0, 0, 0, 0}, {-16, 0, 0, 0}}},
		},
		{
			// Alike: the first band is joined, the last one never; 8, 0, 0, 7 bits of the middle's channel, 2, 0, 0, 7 of the side's.
			f:      levels(joint(4, 4, 24)),
			planes: [][][]int32{blocksOf(4, 100, 0, 0, 100), blocksOf(4, 100, 0, 0, 100)},
			want:   Params{[]int{1, 0, 0, 0}, [][]int{{6, 0, 0, 6}, {0, 0, 0, 6}}, slices.Repeat([][][]int{{{227, 0, 0, 113}, {1, 0, 0, 113}}}, 4)},
			back:   [][][]int32{blocksOf(4, 100, 0, 0, 100), blocksOf(4, 100, 0, 0, 100)},
		},
		{
			// Opposite: the middle is -1 (50 and -51, halved downwards), the side 50; 2, 2, 0, 7 and 7, 0, 0, 6 bits.
			f:      levels(joint(4, 4, 24)),
			planes: [][][]int32{blocksOf(4, 50, 0, 0, 50), blocksOf(4, -51, 0, 0, -51)},
			want:   Params{[]int{1, 0, 0, 0}, [][]int{{0, 0, 0, 5}, {5, 0, 0, 5}}, slices.Repeat([][][]int{{{0, 1, 0, 113}, {113, 0, 0, 6}}}, 4)},
			back:   [][][]int32{blocksOf(4, 48, 0, 0, 50), blocksOf(4, -52, 0, 0, -51)},
		},
	} {
		p, e := Analyse(c.f, c.planes)
		if e != api.OK || !sameParams(p, c.want) {
			t.Errorf("P14.1: Analyse(%+v, %v): %v, %d, not %v", c.f, c.planes, p, e, c.want)
		}
		back, e := Planes(c.f, c.want)
		if e != api.OK || !alike(back, c.back) {
			t.Errorf("P14.1: Planes(%+v, %v): %v, %d, not %v", c.f, c.want, back, e, c.back)
		}
	}
}

// TestLastBandIsNeverJoined has both channels alike, or opposite, in all bands.
func TestLastBandIsNeverJoined(t *testing.T) {
	for _, f := range everyKind() {
		f.Pool = 20
		if f.Joint == 0 {
			continue
		}
		for _, sign := range []int32{1, -1} {
			p := holdAnalyse(t, f, planesBy(f, func(c, i, k int) int32 {
				if c == 1 {
					return sign * 1000
				}
				return 1000
			}))
			want := slices.Repeat([]int{1}, f.Bands)
			want[f.Bands-1] = 0
			if !slices.Equal(p.Joins, want) {
				t.Fatalf("P14.1: %+v: joins %v of channels that are alike", f, p.Joins)
			}
			// The scales are those of middle and side, where both are joined.
			loud, still := p.Scales[0], p.Scales[1]
			if sign < 0 {
				loud, still = still, loud
			}
			for k := range f.Bands - 1 {
				if loud[k] != 9 || still[k] != 0 {
					t.Fatalf("P14.1: %+v: scales %v of middle and side", f, p.Scales)
				}
			}
			if p.Scales[0][f.Bands-1] != 9 || p.Scales[1][f.Bands-1] != 9 {
				t.Fatalf("P14.1: %+v: scales %v of the last band", f, p.Scales)
			}
		}
	}
}

// TestNoJoinsWithoutJoint has channels that would be joined.
func TestNoJoinsWithoutJoint(t *testing.T) {
	for _, f := range everyKind() {
		f.Pool = 20
		if f.Joint == 1 {
			continue
		}
		p := holdAnalyse(t, f, planesBy(f, func(c, i, k int) int32 { return 1000 }))
		if !slices.Equal(p.Joins, make([]int, f.Bands)) {
			t.Fatalf("P14.1: %+v: joins %v, though Joint is 0", f, p.Joins)
		}
	}
}

func TestEndsOfNumbers(t *testing.T) {
	for _, f := range anyFormats(31) {
		for _, x := range []int32{math.MinInt32, math.MinInt32 + 1, math.MaxInt32 - 1, math.MaxInt32, 65535, 65536, -65535, -65536} {
			for _, y := range []int32{x, -x, ^x, 0} {
				holdAnalyse(t, f, planesBy(f, func(c, i, k int) int32 { return []int32{x, y}[c] }))
				// One such number alone, anywhere.
				holdAnalyse(t, f, planesBy(f, func(c, i, k int) int32 {
					if c == f.Channels-1 && i == f.Blocks-1 && k == 1 {
						return x
					}
					return 0
				}))
			}
		}
	}
}

func TestFormOfPlanes(t *testing.T) {
	for _, f := range noFormats() {
		for _, planes := range [][][][]int32{nil, {}, {blocksOf(4, 1, 2, 3, 4)}, {blocksOf(4, 1, 2, 3, 4), blocksOf(4, 1, 2, 3, 4)}, {blocksOf(1)}, {nil, nil}} {
			if p, e := Analyse(f, planes); !isNothing(p) || e != api.ErrForm {
				t.Errorf("P14.1: Analyse(%+v, %v): %v, %d", f, planes, p, e)
			}
		}
		good, _ := Analyse(joint(4, 4, 20), [][][]int32{blocksOf(4, 1, 2, 3, 4), blocksOf(4, 1, 2, 3, 4)})
		for _, p := range []Params{{}, good, {Joins: []int{0, 0, 0, 0}}} {
			if planes, e := Planes(f, p); len(planes) != 0 || e != api.ErrForm {
				t.Errorf("P14.1: Planes(%+v, %v): %v, %d", f, p, planes, e)
			}
		}
	}
}

// noPlanes are none of f, each for another reason.
func noPlanes(f api.Format) [][][][]int32 {
	good := func() [][][]int32 {
		return planesBy(f, func(c, i, k int) int32 { return int32(100*c + 10*i + k) })
	}
	list := [][][][]int32{nil, {}, {nil}, {nil, nil}, good()[:f.Channels-1], append(good(), good()...), append(good(), good()[0])}
	for c := range f.Channels {
		for _, change := range []func(plane [][]int32) [][]int32{
			func(plane [][]int32) [][]int32 { return nil },
			func(plane [][]int32) [][]int32 { return plane[:0] },
			func(plane [][]int32) [][]int32 { return plane[:1] },
			func(plane [][]int32) [][]int32 { return plane[1:] },
			func(plane [][]int32) [][]int32 { return append(plane, plane[0]) },
			func(plane [][]int32) [][]int32 { return append(plane, plane...) },
		} {
			planes := good()
			planes[c] = change(planes[c])
			list = append(list, planes)
		}
		for _, i := range []int{0, 1, f.Blocks - 1} {
			for _, change := range []func(block []int32) []int32{
				func(block []int32) []int32 { return nil },
				func(block []int32) []int32 { return block[:1] },
				func(block []int32) []int32 { return block[1:] },
				func(block []int32) []int32 { return append(block, 0) },
				func(block []int32) []int32 { return append(block, block...) },
			} {
				planes := good()
				planes[c][i] = change(planes[c][i])
				list = append(list, planes)
			}
		}
	}
	// All blocks alike, but of another format.
	for _, other := range []api.Format{mono(4, 4, 2), mono(8, 4, 2), joint(4, 4, 2), joint(8, 16, 2), mono(8, 16, 2)} {
		if other.Channels != f.Channels || other.Blocks != f.Blocks || other.Bands != f.Bands {
			list = append(list, planesBy(other, func(c, i, k int) int32 { return 5 }))
		}
	}
	return list
}

func TestNoPlanes(t *testing.T) {
	for _, f := range everyKind() {
		f.Pool = 7
		for _, planes := range noPlanes(f) {
			kept := copied(planes)
			if p, e := Analyse(f, planes); !isNothing(p) || e != api.ErrArg {
				t.Errorf("P14.1: Analyse(%+v, %v): %v, %d", f, planes, p, e)
			}
			if !alike(planes, kept) {
				t.Errorf("R2: %v are %v after an error", kept, planes)
			}
		}
	}
}

// changes are what can be made wrong of good parameters of f; each has a name.
func changes(f api.Format, share [][]int) map[string]func(p *Params) {
	last := f.Bands - 1
	list := map[string]func(p *Params){
		"nothing":          func(p *Params) { *p = Params{} },
		"nil joins":        func(p *Params) { p.Joins = nil },
		"no joins":         func(p *Params) { p.Joins = p.Joins[:0] },
		"too few joins":    func(p *Params) { p.Joins = p.Joins[:last] },
		"too many joins":   func(p *Params) { p.Joins = append(p.Joins, 0) },
		"a last join":      func(p *Params) { p.Joins[last] = 1 },
		"a last join of 2": func(p *Params) { p.Joins[last] = 2 },
		"a last join < 0":  func(p *Params) { p.Joins[last] = -1 },
		"nil scales":       func(p *Params) { p.Scales = nil },
		"no scales":        func(p *Params) { p.Scales = p.Scales[:0] },
		"a channel less":   func(p *Params) { p.Scales = p.Scales[1:] },
		"a channel more":   func(p *Params) { p.Scales = append(p.Scales, make([]int, f.Bands)) },
		"nil codes":        func(p *Params) { p.Codes = nil },
		"no codes":         func(p *Params) { p.Codes = p.Codes[:0] },
		"a block less":     func(p *Params) { p.Codes = p.Codes[1:] },
		"a block more":     func(p *Params) { p.Codes = append(p.Codes, p.Codes[0]) },
		"joins alone":      func(p *Params) { p.Scales, p.Codes = nil, nil },
		"codes alone":      func(p *Params) { p.Joins, p.Scales = nil, nil },
	}
	for name, x := range map[string]int{"2": 2, "-1": -1, "3": 3, "1 more than 32 bits": 1<<32 | 1, "the least": math.MinInt, "the greatest": math.MaxInt} {
		list["a join of "+name] = func(p *Params) { p.Joins[0] = x }
		list["a join ahead of the last of "+name] = func(p *Params) { p.Joins[last-1] = x }
	}
	if f.Joint == 0 {
		list["a join without Joint"] = func(p *Params) { p.Joins[0] = 1 }
		list["a later join without Joint"] = func(p *Params) { p.Joins[last-1] = 1 }
	}
	for c := range f.Channels {
		changesOfChannel(f, share, c, list)
	}
	return list
}

// changesOfChannel are those whose place is in one channel.
func changesOfChannel(f api.Format, share [][]int, c int, list map[string]func(p *Params)) {
	last := f.Bands - 1
	of := " of channel " + digits(c, 1)
	list["nil scales"+of] = func(p *Params) { p.Scales[c] = nil }
	list["a scale less"+of] = func(p *Params) { p.Scales[c] = p.Scales[c][:last] }
	list["a scale more"+of] = func(p *Params) { p.Scales[c] = append(p.Scales[c], 0) }
	for name, x := range map[string]int{"-1": -1, "16": 16, "17": 17, "1 << 32": 1 << 32, "the least": math.MinInt, "the greatest": math.MaxInt} {
		list["a scale of "+name+of] = func(p *Params) { p.Scales[c][0] = x }
		list["a last scale of "+name+of] = func(p *Params) { p.Scales[c][last] = x }
	}
	for _, i := range []int{0, 1, f.Blocks - 1} {
		at := of + ", block " + digits(i, 4)
		list["nil codes"+at] = func(p *Params) { p.Codes[i][c] = nil }
		list["a code less"+at] = func(p *Params) { p.Codes[i][c] = p.Codes[i][c][:last] }
		list["a code more"+at] = func(p *Params) { p.Codes[i][c] = append(p.Codes[i][c], 0) }
		list["no channels"+at] = func(p *Params) { p.Codes[i] = nil }
		list["a channel less"+at] = func(p *Params) { p.Codes[i] = p.Codes[i][1:] }
		list["a channel more"+at] = func(p *Params) { p.Codes[i] = append(p.Codes[i], make([]int, f.Bands)) }
		for k := range f.Bands {
			levels := levelsOf(share[c][k])
			in := at + ", band " + digits(k, 3)
			for name, x := range map[string]int{"-1": -1, "as many as the levels": levels, "one more": levels + 1, "1 << 32": 1 << 32, "1 << 16": 1 << 16, "the least": math.MinInt, "the greatest": math.MaxInt} {
				list["a code of "+name+in] = func(p *Params) { p.Codes[i][c][k] = x }
			}
		}
	}
}

func TestNoParams(t *testing.T) {
	d := &drawer{seed: 4}
	without := 0
	for _, f := range anyFormats(41) {
		if f.Rate > 0 && f.Method == 1 {
			// By levels the rate changes nothing.
			continue
		}
		good := drawnParams(t, d, f)
		share := shared(t, f, good.Scales)
		for _, channel := range share {
			for _, b := range channel {
				if b == 0 {
					without++
				}
			}
		}
		for name, change := range changes(f, share) {
			p := copiedParams(good)
			change(&p)
			kept := copiedParams(p)
			if planes, e := Planes(f, p); len(planes) != 0 || e != api.ErrArg {
				t.Errorf("P14.1: Planes of %+v with %s: %v, %d", f, name, planes, e)
			}
			if b, e := Pack(f, p); len(b) != 0 || e != api.ErrArg {
				t.Errorf("P14.2: Pack of %+v with %s: %x, %d", f, name, b, e)
			}
			if !sameParams(p, kept) {
				t.Errorf("R2: parameters of %+v with %s are changed after an error", f, name)
			}
		}
		mustBe(t, func() api.Errno { _, e := Pack(f, good); return e }(), "P14.2: Pack of what isn't changed")
	}
	if without < 100 {
		t.Errorf("P14.1: only %d bands have no bits", without)
	}
}

// TestParamsOfAnother has good parameters of one format, and another one.
func TestParamsOfAnother(t *testing.T) {
	d := &drawer{seed: 5}
	formats := []api.Format{mono(4, 4, 9), mono(4, 8, 9), mono(8, 4, 9), mono(8, 16, 9), joint(4, 4, 9), joint(8, 4, 9), joint(8, 12, 9)}
	for _, f := range formats {
		p := drawnParams(t, d, f)
		for _, g := range formats {
			if f == g {
				continue
			}
			if planes, e := Planes(g, p); len(planes) != 0 || e != api.ErrArg {
				t.Errorf("P14.1: Planes of %+v by %+v: %v, %d", f, g, planes, e)
			}
			if b, e := Pack(g, p); len(b) != 0 || e != api.ErrArg {
				t.Errorf("P14.2: Pack of %+v by %+v: %x, %d", f, g, b, e)
			}
		}
	}
}

func TestSame(t *testing.T) {
	d := &drawer{seed: 6}
	for _, f := range []api.Format{mono(4, 4, 9), joint(4, 4, 40), joint(8, 16, 100)} {
		p := drawnParams(t, d, f)
		q := copiedParams(p)
		if !Same(p, q) || !Same(q, p) || !Same(p, p) {
			t.Errorf("P14.2: Same: %v isn't itself", p)
		}
		differ := func(what string) {
			t.Helper()
			if Same(p, q) || Same(q, p) {
				t.Errorf("P14.2: Same: %s: %v, %v", what, p, q)
			}
			q = copiedParams(p)
		}
		lists := len(numbersOf(p))
		for i := range lists {
			for k := range numbersOf(p)[i] {
				for _, by := range []int{1, -1, 1 << 32, math.MinInt} {
					numbersOf(q)[i][k] += by
					differ("another number")
				}
			}
		}
		for _, change := range []func(){
			func() { q.Joins = q.Joins[1:] },
			func() { q.Joins = nil },
			func() { q.Joins = append(q.Joins, 0) },
			func() { q.Scales = nil },
			func() { q.Scales = q.Scales[1:] },
			func() { q.Scales = append(q.Scales, q.Scales[0]) },
			func() { q.Scales[0] = q.Scales[0][1:] },
			func() { q.Scales[0] = append(q.Scales[0], 0) },
			func() { q.Scales[0] = nil },
			func() { q.Codes = nil },
			func() { q.Codes = q.Codes[:3] },
			func() { q.Codes = append(q.Codes, q.Codes[0]) },
			func() { q.Codes[1] = nil },
			func() { q.Codes[1] = append(q.Codes[1], q.Codes[1][0]) },
			func() { q.Codes[3][0] = q.Codes[3][0][1:] },
			func() { q.Codes[3][0] = append(q.Codes[3][0], 0) },
			func() { q = Params{} },
		} {
			change()
			differ("fewer or more numbers")
		}
	}
	if !Same(Params{}, Params{}) {
		t.Errorf("P14.2: Same: nothing isn't itself")
	}
}

// A list without items may be nil or empty.
func TestSameOfNothing(t *testing.T) {
	empty := Params{[]int{}, [][]int{}, [][][]int{}}
	if !Same(Params{}, empty) || !Same(empty, Params{}) {
		t.Errorf("R3: Same: nil lists aren't empty ones")
	}
	a, b := Params{Scales: [][]int{nil}, Codes: [][][]int{nil, {nil}}}, Params{Scales: [][]int{{}}, Codes: [][][]int{{}, {{}}}}
	if !Same(a, b) || !Same(b, a) {
		t.Errorf("R3: Same: nil lists within aren't empty ones")
	}
	// What isn't laid alike isn't the same, though its numbers follow on one another alike.
	for _, c := range [][2]Params{
		{{Scales: [][]int{{1, 2}, {3}}}, {Scales: [][]int{{1}, {2, 3}}}},
		{{Codes: [][][]int{{{1, 2}}, {{3}}}}, {Codes: [][][]int{{{1}}, {{2, 3}}}}},
		{{Codes: [][][]int{{{1}, {2}}}}, {Codes: [][][]int{{{1}}, {{2}}}}},
		{{Joins: []int{1}}, {Scales: [][]int{{1}}}},
	} {
		if Same(c[0], c[1]) || Same(c[1], c[0]) {
			t.Errorf("P14.2: Same(%v, %v)", c[0], c[1])
		}
	}
}

func TestParamsToldAreTheCallers(t *testing.T) {
	d := &drawer{seed: 7}
	for _, f := range anyFormats(71) {
		planes := drawnPlanes(d, f, 9)
		kept := copied(planes)
		p, _ := Analyse(f, planes)
		want := copiedParams(p)
		for _, plane := range planes {
			for _, block := range plane {
				spoil(block)
			}
		}
		if !sameParams(p, want) {
			t.Fatalf("R4: what Analyse told hangs on what was handed in")
		}
		other, _ := Analyse(f, kept)
		spoilApart(t, "Analyse", append(numbersOf(p), numbersOf(other)...))
		cutOuter(t, "Analyse", append([][][]int{p.Scales, other.Scales}, append(p.Codes, other.Codes...)...))
		if again, e := Analyse(f, kept); e != api.OK || !sameParams(again, want) {
			t.Fatalf("R6: Analyse tells otherwise after an answer was changed")
		}
	}
}

func TestPlanesToldAreTheCallers(t *testing.T) {
	d := &drawer{seed: 8}
	for _, f := range anyFormats(81) {
		p := drawnParams(t, d, f)
		kept := copiedParams(p)
		planes, _ := Planes(f, p)
		want := copied(planes)
		for _, list := range numbersOf(p) {
			spoil(list)
		}
		if !alike(planes, want) {
			t.Fatalf("R4: what Planes told hangs on what was handed in")
		}
		other, _ := Planes(f, kept)
		spoilApart(t, "Planes", slices.Concat(slices.Concat(planes...), slices.Concat(other...)))
		cutOuter(t, "Planes", append(planes, other...))
		if again, e := Planes(f, kept); e != api.OK || !alike(again, want) {
			t.Fatalf("R6: Planes tells otherwise after an answer was changed")
		}
	}
}
