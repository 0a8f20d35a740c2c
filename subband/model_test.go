package subband

import (
	"math"
	"slices"
	"strconv"
	"strings"
	"testing"

	"psaltery/alloc"
	"psaltery/api"
	"psaltery/format"
	"psaltery/quant"
)

// drawer draws numbers from a fixed seed, so that a failure comes again.
type drawer struct{ seed int }

func (d *drawer) draw() int {
	d.seed = (d.seed*1103515245 + 12345) % (1 << 31)
	return d.seed >> 16
}

// number is an int32 of any size up to 32 bits less the shift.
func (d *drawer) number(shift int) int32 {
	high, middle, low := d.draw(), d.draw(), d.draw()
	return int32(uint32(high<<17^middle<<2^low&3)) >> shift
}

func mustBe(t *testing.T, e api.Errno, what string) {
	t.Helper()
	if e != api.OK {
		t.Fatalf("%s: error %d", what, e)
	}
}

// everyKind are the formats of Sub of each rate, channels, joint, bands, blocks and method; their pools are still to be told.
func everyKind() []api.Format {
	var list []api.Format
	for rate := range 4 {
		for _, way := range [][2]int{{1, 0}, {2, 0}, {2, 1}} {
			for _, bands := range []int{4, 8} {
				for blocks := 4; blocks <= 16; blocks += 4 {
					for method := range 2 {
						list = append(list, api.Format{Codec: api.Sub, Rate: rate, Channels: way[0], Joint: way[1], Bands: bands, Blocks: blocks, Method: method})
					}
				}
			}
		}
	}
	return list
}

func withPool(f api.Format, pool int) api.Format {
	f.Pool = pool
	return f
}

// greatestPool is that of the greatest frame that a kind has.
func greatestPool(f api.Format) int {
	pool := min(16*f.Bands*f.Channels, 250)
	for format.Check(withPool(f, pool)) != api.OK {
		pool--
	}
	return pool
}

// everyFormat has each kind with small pools, with any, and with the greatest.
func everyFormat() []api.Format {
	var list []api.Format
	d := &drawer{seed: 21}
	for _, f := range everyKind() {
		most := greatestPool(f)
		for _, pool := range []int{2, 3, 5, 2 + d.draw()%(most-1), most - 1, most} {
			list = append(list, withPool(f, pool))
		}
	}
	return list
}

// anyFormats has each kind once, with any pool.
func anyFormats(seed int) []api.Format {
	list := everyKind()
	d := &drawer{seed: seed}
	for i, f := range list {
		list[i].Pool = 2 + d.draw()%(greatestPool(f)-1)
	}
	return list
}

func mono(bands, blocks, pool int) api.Format {
	return api.Format{Codec: api.Sub, Channels: 1, Bands: bands, Blocks: blocks, Pool: pool}
}

func joint(bands, blocks, pool int) api.Format {
	return api.Format{Codec: api.Sub, Channels: 2, Joint: 1, Bands: bands, Blocks: blocks, Pool: pool}
}

// planesBy puts planes of f together, number by number.
func planesBy(f api.Format, number func(channel, block, band int) int32) [][][]int32 {
	var planes [][][]int32
	for c := range f.Channels {
		var plane [][]int32
		for i := range f.Blocks {
			var block []int32
			for k := range f.Bands {
				block = append(block, number(c, i, k))
			}
			plane = append(plane, block)
		}
		planes = append(planes, plane)
	}
	return planes
}

const planeKinds = 10

// drawnPlanes are 0, loud, of one band alone, alike in both channels, opposite, nearly one of both, at the ends of an int32, or any.
func drawnPlanes(d *drawer, f api.Format, kind int) [][][]int32 {
	only, shift := d.draw()%f.Bands, d.draw()%32
	var planes [][][]int32
	number := func(c, i, k int) int32 {
		switch kind {
		case 0:
			return 0
		case 1:
			return d.number(0)
		case 2:
			if k != only {
				return 0
			}
			return d.number(shift)
		case 6:
			return []int32{math.MinInt32, math.MaxInt32, math.MinInt32 + 1, 0, -1, 1}[d.draw()%6]
		case 7:
			return d.number(14 + 17*((k+c)%2))
		case 8:
			return d.number(14 + 2*k)
		default:
			return d.number(shift)
		}
	}
	planes = planesBy(f, number)
	if f.Channels == 1 {
		return planes
	}
	for i := range f.Blocks {
		for k := range f.Bands {
			x, y := planes[0][i][k], &planes[1][i][k]
			switch kind {
			case 3:
				*y = x
			case 4:
				*y = -max(x, -math.MaxInt32)
			case 5:
				*y = x>>1 + int32(d.draw()%4)
			case 9:
				// Some bands alike, some opposite, some neither.
				switch (k + shift) % 3 {
				case 0:
					*y = x
				case 1:
					*y = -max(x, -math.MaxInt32)
				}
			}
		}
	}
	return planes
}

// drawnParams are any: what no planes would lead to, too.
func drawnParams(t *testing.T, d *drawer, f api.Format) Params {
	t.Helper()
	p := Params{Joins: make([]int, f.Bands)}
	for k := range f.Bands - 1 {
		p.Joins[k] = d.draw() % (f.Joint + 1)
	}
	for range f.Channels {
		var scales []int
		for range f.Bands {
			scales = append(scales, d.draw()%16)
		}
		p.Scales = append(p.Scales, scales)
	}
	share := shared(t, f, p.Scales)
	for range f.Blocks {
		var block [][]int
		for c := range f.Channels {
			var codes []int
			for k := range f.Bands {
				codes = append(codes, drawnCode(d, levelsOf(share[c][k])))
			}
			block = append(block, codes)
		}
		p.Codes = append(p.Codes, block)
	}
	return p
}

// drawnCode is often the least or the greatest one.
func drawnCode(d *drawer, levels int) int {
	switch d.draw() % 4 {
	case 0:
		return 0
	case 1:
		return levels - 1
	default:
		return (d.draw()<<15 | d.draw()) % levels
	}
}

// levelsOf tells how many codes there are of so many bits, written out.
func levelsOf(bits int) int {
	return [17]int{1, 0, 3, 7, 15, 31, 63, 127, 255, 511, 1023, 2047, 4095, 8191, 16383, 32767, 65535}[bits]
}

func shared(t *testing.T, f api.Format, scales [][]int) [][]int {
	t.Helper()
	share, e := alloc.Share(f, scales)
	mustBe(t, e, "Share")
	return share
}

// modelAnalyse puts the parameters together straight from the chapter's words.
func modelAnalyse(t *testing.T, f api.Format, planes [][][]int32) Params {
	t.Helper()
	stand := copied(planes)
	p := Params{Joins: make([]int, f.Bands)}
	if f.Joint == 1 {
		better, e := quant.Joins(planes[0], planes[1])
		mustBe(t, e, "Joins")
		m, s, e := quant.Middle(planes[0], planes[1])
		mustBe(t, e, "Middle")
		for k := range better {
			if !better[k] {
				continue
			}
			p.Joins[k] = 1
			for i := range m {
				stand[0][i][k], stand[1][i][k] = m[i][k], s[i][k]
			}
		}
	}
	for _, plane := range stand {
		scales, e := quant.Scales(plane)
		mustBe(t, e, "Scales")
		p.Scales = append(p.Scales, scales)
	}
	share := shared(t, f, p.Scales)
	for i := 0; i < f.Blocks; i++ {
		var block [][]int
		for c := 0; c < f.Channels; c++ {
			var codes []int
			for k := 0; k < f.Bands; k++ {
				q, e := quant.Quant(stand[c][i][k], p.Scales[c][k], share[c][k])
				mustBe(t, e, "Quant")
				codes = append(codes, q)
			}
			block = append(block, codes)
		}
		p.Codes = append(p.Codes, block)
	}
	return p
}

// modelPlanes has each pair put apart by itself.
func modelPlanes(t *testing.T, f api.Format, p Params) [][][]int32 {
	t.Helper()
	share := shared(t, f, p.Scales)
	number := func(c, i, k int) int32 {
		y, e := quant.Level(p.Codes[i][c][k], p.Scales[c][k], share[c][k])
		mustBe(t, e, "Level")
		return y
	}
	return planesBy(f, func(c, i, k int) int32 {
		if p.Joins[k] == 0 {
			return number(c, i, k)
		}
		l, r, e := quant.Sides([][]int32{{number(0, i, k)}}, [][]int32{{number(1, i, k)}})
		mustBe(t, e, "Sides")
		return [][][]int32{l, r}[c][0][0]
	})
}

// digits are a number's bits as a text, the highest one first.
func digits(number, width int) string {
	if width == 0 {
		return ""
	}
	text := strconv.FormatInt(int64(number), 2)
	return strings.Repeat("0", width-len(text)) + text
}

func modelSum(text string) int {
	sum := 15
	for _, bit := range text {
		high := sum / 128
		sum = sum * 2 % 256
		if high != int(bit-'0') {
			sum ^= 29
		}
	}
	return sum
}

func bytesOf(text string) []byte {
	var b []byte
	for ; text != ""; text = text[8:] {
		v, _ := strconv.ParseUint(text[:8], 2, 8)
		b = append(b, byte(v))
	}
	return b
}

func textOf(b []byte) string {
	var text strings.Builder
	for _, x := range b {
		text.WriteString(digits(int(x), 8))
	}
	return text.String()
}

// modelHead are the bits of the second and third byte.
func modelHead(f api.Format) string {
	channels := "00"
	if f.Channels == 2 {
		channels = "10"
	}
	if f.Joint == 1 {
		channels = "11"
	}
	bands := "0"
	if f.Bands == 8 {
		bands = "1"
	}
	return digits(f.Rate, 2) + digits(f.Blocks/4-1, 2) + channels + digits(f.Method, 1) + bands + digits(f.Pool, 8)
}

// modelSide are the bits of joins and scales.
func modelSide(f api.Format, p Params) string {
	side := ""
	if f.Joint == 1 {
		for _, join := range p.Joins {
			side += digits(join, 1)
		}
	}
	for _, channel := range p.Scales {
		for _, scale := range channel {
			side += digits(scale, 4)
		}
	}
	return side
}

// sideLen is how many bits of joins and scales a frame has.
func sideLen(f api.Format) int { return f.Joint*f.Bands + 4*f.Bands*f.Channels }

// sealed is a frame of these bits of joins and scales and of what stands behind them, with the sum that they ask for.
func sealed(f api.Format, side, rest string) []byte {
	head := modelHead(f)
	text := "10011100" + head + digits(modelSum(head+side), 8) + side + rest
	// The bytes, by the words of chapter 11.
	size := (32 + sideLen(f) + f.Blocks*f.Pool + 7) / 8
	return bytesOf(text + strings.Repeat("0", 8*size-len(text)))
}

func modelFrame(t *testing.T, f api.Format, p Params) []byte {
	t.Helper()
	share := shared(t, f, p.Scales)
	var codes strings.Builder
	for i := 0; i < f.Blocks; i++ {
		for c := 0; c < f.Channels; c++ {
			for k := 0; k < f.Bands; k++ {
				codes.WriteString(digits(p.Codes[i][c][k], share[c][k]))
			}
		}
	}
	return sealed(f, modelSide(f, p), codes.String())
}

// reader takes numbers from the front of a text of bits.
type reader struct{ text string }

func (r *reader) take(width int) int {
	v, _ := strconv.ParseUint("0"+r.text[:width], 2, 64)
	r.text = r.text[width:]
	return int(v)
}

// modelParse asks each field by itself.
func modelParse(t *testing.T, f api.Format, b []byte) (Params, bool) {
	t.Helper()
	if len(b) != format.Payload(f) {
		return Params{}, false
	}
	text := textOf(b)
	head, side := text[8:24], text[32:32+sideLen(f)]
	if text[:8] != "10011100" || head != modelHead(f) || text[24:32] != digits(modelSum(head+side), 8) {
		return Params{}, false
	}
	r := &reader{text[32:]}
	p := Params{Joins: make([]int, f.Bands)}
	for k := range f.Joint * f.Bands {
		p.Joins[k] = r.take(1)
	}
	for range f.Channels {
		var scales []int
		for range f.Bands {
			scales = append(scales, r.take(4))
		}
		p.Scales = append(p.Scales, scales)
	}
	good := p.Joins[f.Bands-1] == 0
	share := shared(t, f, p.Scales)
	for range f.Blocks {
		var block [][]int
		for c := range f.Channels {
			var codes []int
			for k := range f.Bands {
				code := r.take(share[c][k])
				good = good && code < levelsOf(share[c][k])
				codes = append(codes, code)
			}
			block = append(block, codes)
		}
		p.Codes = append(p.Codes, block)
	}
	if !good || strings.Contains(r.text, "1") {
		return Params{}, false
	}
	return p, true
}

func copied[T any](list [][][]T) [][][]T {
	if list == nil {
		return nil
	}
	told := make([][][]T, len(list))
	for i := range list {
		told[i] = copiedRows(list[i])
	}
	return told
}

func copiedRows[T any](list [][]T) [][]T {
	if list == nil {
		return nil
	}
	told := make([][]T, len(list))
	for i := range list {
		told[i] = slices.Clone(list[i])
	}
	return told
}

func copiedParams(p Params) Params {
	return Params{slices.Clone(p.Joins), copiedRows(p.Scales), copied(p.Codes)}
}

func alikeRows[T comparable](a, b [][]T) bool { return slices.EqualFunc(a, b, slices.Equal[[]T]) }

func alike[T comparable](a, b [][][]T) bool { return slices.EqualFunc(a, b, alikeRows[T]) }

// sameParams doesn't ask Same, which is held against it.
func sameParams(a, b Params) bool {
	return slices.Equal(a.Joins, b.Joins) && alikeRows(a.Scales, b.Scales) && alike(a.Codes, b.Codes)
}

// isNothing tells whether parameters are those that stand beside an error.
func isNothing(p Params) bool { return len(p.Joins)+len(p.Scales)+len(p.Codes) == 0 }

// numbersOf are all lists of numbers that parameters reach.
func numbersOf(p Params) [][]int {
	all := append([][]int{p.Joins}, p.Scales...)
	for _, block := range p.Codes {
		all = append(all, block...)
	}
	return all
}

// spoil overwrites a list up to its capacity.
func spoil[T int | int16 | int32 | byte](list []T) {
	list = list[:cap(list)]
	for i := range list {
		list[i] = 77
	}
}

// spoilApart overwrites each list in turn; those behind it must stay as they are.
func spoilApart[T int | int32](t *testing.T, what string, lists [][]T) {
	t.Helper()
	kept := copiedRows(lists)
	for i := range lists {
		if !slices.Equal(lists[i], kept[i]) {
			t.Fatalf("R4: lists that %s told share memory", what)
		}
		spoil(lists[i])
	}
}

// cutOuter empties the outer lists up to their capacity, one by one; none may be another's.
func cutOuter[T any](t *testing.T, what string, lists [][][]T) {
	t.Helper()
	for _, list := range lists {
		list = list[:cap(list)]
		for i := range list {
			if list[i] == nil {
				t.Fatalf("R4: lists that %s told share memory", what)
			}
			list[i] = nil
		}
	}
}

// noFormats are none of Sub, each for another reason.
func noFormats() []api.Format {
	good := api.Format{Codec: api.Sub, Channels: 2, Bands: 4, Blocks: 4, Joint: 1, Pool: 20}
	list := []api.Format{
		{},
		{Codec: api.Lap, Channels: 1, Length: 40, Bytes: 20},
		{Codec: api.Lap, Channels: 2, Length: 120, Bytes: 120, Rate: 3},
		{Codec: api.Lap, Channels: 1, Length: 60, Bytes: 40, Rate: 1},
	}
	for _, change := range []func(f *api.Format){
		func(f *api.Format) { f.Codec = 0 },
		func(f *api.Format) { f.Codec = api.Lap },
		func(f *api.Format) { f.Codec = 3 },
		func(f *api.Format) { f.Codec = -1 },
		func(f *api.Format) { f.Rate = 4 },
		func(f *api.Format) { f.Rate = -1 },
		func(f *api.Format) { f.Channels = 0 },
		func(f *api.Format) { f.Channels = 1 },
		func(f *api.Format) { f.Channels = 3 },
		func(f *api.Format) { f.Channels = -1 },
		func(f *api.Format) { f.Bands = 0 },
		func(f *api.Format) { f.Bands = 5 },
		func(f *api.Format) { f.Bands = -4 },
		func(f *api.Format) { f.Bands = 16 },
		func(f *api.Format) { f.Blocks = 0 },
		func(f *api.Format) { f.Blocks = 5 },
		func(f *api.Format) { f.Blocks = 20 },
		func(f *api.Format) { f.Blocks = -4 },
		func(f *api.Format) { f.Method = 2 },
		func(f *api.Format) { f.Method = -1 },
		func(f *api.Format) { f.Joint = 2 },
		func(f *api.Format) { f.Joint = -1 },
		func(f *api.Format) { f.Pool = 1 },
		func(f *api.Format) { f.Pool = 0 },
		func(f *api.Format) { f.Pool = -2 },
		func(f *api.Format) { f.Pool = 129 },
		func(f *api.Format) { f.Bands, f.Blocks, f.Pool = 8, 4, 251 },
		func(f *api.Format) { f.Bands, f.Blocks, f.Pool = 8, 16, 250 },
		func(f *api.Format) { f.Length = 40 },
		func(f *api.Format) { f.Bytes = 20 },
		func(f *api.Format) { f.Rate = math.MaxInt },
		func(f *api.Format) { f.Channels = math.MinInt },
		func(f *api.Format) { f.Bands, f.Blocks = math.MaxInt, math.MinInt },
		func(f *api.Format) { f.Pool = math.MaxInt },
	} {
		f := good
		change(&f)
		list = append(list, f)
	}
	return list
}
