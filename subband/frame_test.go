package subband

import (
	"bytes"
	"slices"
	"strings"
	"testing"

	"psaltery/api"
	"psaltery/format"
)

// holdFrame holds Pack against the model's bits, and Parse of the frame against the parameters; both ways round.
func holdFrame(t *testing.T, f api.Format, p Params) []byte {
	t.Helper()
	kept := copiedParams(p)
	b, e := Pack(f, p)
	if want := modelFrame(t, f, kept); e != api.OK || !bytes.Equal(b, want) {
		t.Fatalf("P14.2: Pack(%+v, %v): %x, %d, not %x", f, kept, b, e, want)
	}
	if !sameParams(p, kept) {
		t.Fatalf("R4: Pack changes what it is handed: %v, not %v", p, kept)
	}
	if len(b) != format.Payload(f) {
		t.Fatalf("P14.4: a frame of %+v has %d bytes, not %d", f, len(b), format.Payload(f))
	}
	frame := bytes.Clone(b)
	q, e := Parse(f, b)
	if e != api.OK || !sameParams(q, kept) || !Same(q, p) {
		t.Fatalf("P14.4: Parse(%+v, %x): %v, %d, not %v", f, b, q, e, kept)
	}
	if !bytes.Equal(b, frame) {
		t.Fatalf("R4: Parse changes what it is handed: %x, not %x", b, frame)
	}
	if again, e := Pack(f, q); e != api.OK || !bytes.Equal(again, frame) {
		t.Fatalf("P14.4: Pack of what was parsed of %x: %x, %d", frame, again, e)
	}
	return frame
}

// refused are bytes that are no frame of f.
func refused(t *testing.T, f api.Format, b []byte, what string) {
	t.Helper()
	if p, e := Parse(f, b); !isNothing(p) || e != api.ErrFrame {
		t.Fatalf("P14.2: %s: Parse(%+v, %x): %v, %d", what, f, b, p, e)
	}
}

// holdParse holds Parse of any bytes against the model, and tells whether they are a frame.
func holdParse(t *testing.T, f api.Format, b []byte) bool {
	t.Helper()
	want, good := modelParse(t, f, b)
	if !good {
		refused(t, f, b, "what the model refuses")
		return false
	}
	p, e := Parse(f, b)
	if e != api.OK || !sameParams(p, want) {
		t.Fatalf("P14.2: Parse(%+v, %x): %v, %d, not %v", f, b, p, e, want)
	}
	if again, e := Pack(f, p); e != api.OK || !bytes.Equal(again, b) {
		t.Fatalf("P14.4: Pack of what was parsed of %x: %x, %d", b, again, e)
	}
	return true
}

// turned has the bits turned that mask has from the place from on (the highest bit of byte 0 is 0).
func turned(b []byte, from int, mask string) []byte {
	told := bytes.Clone(b)
	for i, x := range mask {
		if x == '1' {
			told[(from+i)/8] ^= 128 >> ((from + i) % 8)
		}
	}
	return told
}

func TestFramesOfPlanes(t *testing.T) {
	d := &drawer{seed: 10}
	for _, f := range everyFormat() {
		for kind := range planeKinds {
			p, e := Analyse(f, drawnPlanes(d, f, kind))
			mustBe(t, e, "P14.1: Analyse")
			holdFrame(t, f, p)
		}
	}
}

func TestFramesOfAnyParams(t *testing.T) {
	d := &drawer{seed: 11}
	for _, f := range everyFormat() {
		for range 3 {
			holdFrame(t, f, drawnParams(t, d, f))
		}
	}
}

// TestEndsOfCodes has codes that are all 0, or all the greatest of their levels, and scales that are all the least or the greatest.
func TestEndsOfCodes(t *testing.T) {
	d := &drawer{seed: 12}
	for _, f := range everyFormat() {
		for way := range 6 {
			p := drawnParams(t, d, f)
			for c := range p.Scales {
				for k := range p.Scales[c] {
					switch way / 2 {
					case 1:
						p.Scales[c][k] = 0
					case 2:
						p.Scales[c][k] = 15
					}
				}
			}
			for k := range f.Bands - 1 {
				p.Joins[k] = f.Joint * (way % 2)
			}
			share := shared(t, f, p.Scales)
			for _, block := range p.Codes {
				for c := range block {
					for k := range block[c] {
						block[c][k] = way % 2 * (levelsOf(share[c][k]) - 1)
					}
				}
			}
			holdFrame(t, f, p)
			holdPlanes(t, f, p)
		}
	}
}

// The bytes are those that the chapter's words ask for, reckoned apart.
func TestFramesWrittenOut(t *testing.T) {
	same := func(n int, block [][]int) [][][]int { return slices.Repeat([][][]int{block}, n) }
	for _, c := range []struct {
		f    api.Format
		p    Params
		want string
	}{
		{
			mono(4, 4, 2),
			Params{[]int{0, 0, 0, 0}, [][]int{{0, 0, 0, 0}}, same(4, [][]int{{1, 0, 0, 0}})},
			"\x9c\x00\x02\x6b\x00\x00\x55",
		},
		{
			// Rate 2: 10; 8 blocks: 01; joint: 11; Method 1: 1; 4 bands: 0. The joins 1000, the scales 6, 0, 0, 6 and 0, 0, 0, 6; codes in 8, 7, 2 and 7 bits.
			api.Format{Codec: api.Sub, Rate: 2, Channels: 2, Joint: 1, Bands: 4, Blocks: 8, Method: 1, Pool: 24},
			Params{[]int{1, 0, 0, 0}, [][]int{{6, 0, 0, 6}, {0, 0, 0, 6}}, same(8, [][]int{{227, 0, 0, 113}, {1, 0, 0, 113}})},
			"\x9c\x9e\x18\x1c\x86\x00\x60\x00\x6e\x3e\x2f\x1e\x3e\x2f\x1e\x3e\x2f\x1e\x3e\x2f\x1e\x3e\x2f\x1e\x3e\x2f\x1e\x3e\x2f\x1e\x3e\x2f\x10",
		},
	} {
		if b := holdFrame(t, c.f, c.p); string(b) != c.want {
			t.Errorf("P14.2: Pack(%+v, %v): %x, not %x", c.f, c.p, b, c.want)
		}
	}
}

func TestFormOfFrames(t *testing.T) {
	d := &drawer{seed: 13}
	f := joint(4, 4, 20)
	good := drawnParams(t, d, f)
	frame := holdFrame(t, f, good)
	for _, f := range noFormats() {
		for _, p := range []Params{{}, good} {
			if b, e := Pack(f, p); len(b) != 0 || e != api.ErrForm {
				t.Errorf("P14.2: Pack(%+v, %v): %x, %d", f, p, b, e)
			}
		}
		for _, b := range [][]byte{nil, {}, frame, frame[:3], make([]byte, 20), make([]byte, 600)} {
			if p, e := Parse(f, b); !isNothing(p) || e != api.ErrForm {
				t.Errorf("P14.2: Parse(%+v, %x): %v, %d", f, b, p, e)
			}
		}
	}
}

func TestNoFrames(t *testing.T) {
	d := &drawer{seed: 14}
	for _, f := range everyFormat() {
		frame := holdFrame(t, f, drawnParams(t, d, f))
		n := len(frame)
		for _, size := range []int{0, 1, 2, 3, 4, 5, n / 2, n - 2, n - 1} {
			refused(t, f, frame[:size], "too few bytes")
		}
		refused(t, f, nil, "no bytes")
		refused(t, f, frame[1:], "without its first byte")
		refused(t, f, append(bytes.Clone(frame), 0), "a byte more")
		refused(t, f, append(bytes.Clone(frame), frame...), "twice as many")
		refused(t, f, append(bytes.Clone(frame), make([]byte, 600)...), "many more")
		refused(t, f, append([]byte{0}, frame...), "a byte ahead")
		refused(t, f, make([]byte, n), "nothing but 0")
		refused(t, f, bytes.Repeat([]byte{255}, n), "nothing but 1")
	}
}

// TestOtherBytesAhead has each other byte in the place of each of the first four.
func TestOtherBytesAhead(t *testing.T) {
	d := &drawer{seed: 28}
	for _, f := range anyFormats(281) {
		if f.Blocks > 4 {
			continue
		}
		frame := holdFrame(t, f, drawnParams(t, d, f))
		for at := range 4 {
			b := bytes.Clone(frame)
			for x := range 256 {
				if b[at] = byte(x); b[at] != frame[at] {
					refused(t, f, b, "P14.4: another byte ahead")
				}
			}
		}
	}
}

// TestFramesOfAnother has good frames of one format, and asks another: though one byte alone may tell them apart.
func TestFramesOfAnother(t *testing.T) {
	d := &drawer{seed: 15}
	formats := anyFormats(151)
	for _, f := range formats {
		f.Pool = 9
		frame := holdFrame(t, f, drawnParams(t, d, f))
		for _, g := range formats {
			if g.Pool = 9; g != f {
				refused(t, g, frame, "another's")
			}
		}
		for _, pool := range []int{8, 10} {
			g := withPool(f, pool)
			refused(t, g, frame, "of another pool")
			refused(t, g, slices.Concat(frame, make([]byte, 40))[:format.Payload(g)], "of another pool")
		}
	}
}

// TestAnotherHead has frames whose sum is right, but whose head is of another format.
func TestAnotherHead(t *testing.T) {
	d := &drawer{seed: 16}
	for _, f := range anyFormats(161) {
		p := drawnParams(t, d, f)
		frame := holdFrame(t, f, p)
		side := modelSide(f, p)
		for i := range 16 {
			b := turned(frame, 8+i, "1")
			b[3] = byte(modelSum(textOf(b[1:3]) + side))
			refused(t, f, b, "another head with its sum")
		}
	}
}

// The head turned at each of its bits, and by any masks; the sum, too.
func TestFirstFourBytes(t *testing.T) {
	d := &drawer{seed: 17}
	for _, f := range everyFormat() {
		frame := holdFrame(t, f, drawnParams(t, d, f))
		for i := range 32 {
			refused(t, f, turned(frame, i, "1"), "P14.4: a bit of the first four bytes")
		}
		for range 40 {
			mask := digits(d.draw()|1, 15) + digits(d.draw(), 15)
			refused(t, f, turned(frame, d.draw()%3, mask), "P14.4: bits of the first four bytes")
		}
	}
}

// Each run of up to eight bits of joins and scales, all of them turned.
func TestRunsOfSides(t *testing.T) {
	d := &drawer{seed: 18}
	for _, f := range anyFormats(181) {
		frame := holdFrame(t, f, drawnParams(t, d, f))
		for size := 1; size <= 8; size++ {
			for from := 32; from+size <= 32+sideLen(f); from++ {
				refused(t, f, turned(frame, from, strings.Repeat("1", size)), "P14.4: a run of joins and scales")
			}
		}
	}
}

// Any bits within eight of joins and scales.
func TestBurstsOfSides(t *testing.T) {
	d := &drawer{seed: 19}
	for _, f := range []api.Format{mono(4, 4, 5), mono(8, 4, 40), joint(4, 4, 20), joint(8, 4, 60), withPool(api.Format{Codec: api.Sub, Rate: 3, Channels: 2, Bands: 4, Blocks: 4, Method: 1}, 30)} {
		frame := holdFrame(t, f, drawnParams(t, d, f))
		for from := 32; from < 32+sideLen(f); from++ {
			for mask := 1; mask < 256; mask++ {
				if text := strings.TrimRight(digits(mask, 8), "0"); from+len(text) <= 32+sideLen(f) {
					refused(t, f, turned(frame, from, text), "P14.4: bits of joins and scales")
				}
			}
		}
	}
}

// holdLastBits turns each bit behind the last code: none of them may be 1. It tells how many there are.
func holdLastBits(t *testing.T, f api.Format, p Params) int {
	t.Helper()
	frame := holdFrame(t, f, p)
	used := 32 + sideLen(f)
	for _, channel := range shared(t, f, p.Scales) {
		for _, b := range channel {
			used += b * f.Blocks
		}
	}
	for i := used; i < 8*len(frame); i++ {
		refused(t, f, turned(frame, i, "1"), "a last bit")
	}
	return 8*len(frame) - used
}

func TestLastBits(t *testing.T) {
	d := &drawer{seed: 20}
	for _, f := range everyFormat() {
		holdLastBits(t, f, drawnParams(t, d, f))
	}
}

// TestBitsThatNobodyGets has one band alone that needs any: of 17 bits it gets 16, and one of each block is left, which makes up to two bytes.
func TestBitsThatNobodyGets(t *testing.T) {
	for _, f := range everyKind() {
		if f.Method == 0 {
			continue
		}
		f.Pool = 17
		p, e := Analyse(f, planesBy(f, func(c, i, k int) int32 {
			if c == 0 && k == f.Bands-1 {
				return 60000
			}
			return 0
		}))
		mustBe(t, e, "P14.1: Analyse")
		if left := holdLastBits(t, f, p); left < f.Blocks {
			t.Errorf("P14.2: %+v: %d bits behind the last code, of %d blocks", f, left, f.Blocks)
		}
	}
}

// TestNoLevel has one code too great: as many as its levels, which are all bits 1.
func TestNoLevel(t *testing.T) {
	d := &drawer{seed: 22}
	for _, f := range everyFormat() {
		p := drawnParams(t, d, f)
		share := shared(t, f, p.Scales)
		i, tried := d.draw()%f.Blocks, 0
		for c := range f.Channels {
			for k := range f.Bands {
				if share[c][k] == 0 {
					continue
				}
				q := copiedParams(p)
				q.Codes[i][c][k] = levelsOf(share[c][k])
				refused(t, f, modelFrame(t, f, q), "no level")
				q.Codes[i][c][k]--
				holdFrame(t, f, q)
				tried++
			}
		}
		if tried == 0 {
			t.Errorf("P14.2: %+v: no code has bits", f)
		}
	}
}

// TestLastJoin has the last band joined, with the sum of it.
func TestLastJoin(t *testing.T) {
	d := &drawer{seed: 23}
	for _, f := range everyFormat() {
		if f.Joint == 0 {
			continue
		}
		p := drawnParams(t, d, f)
		p.Joins[f.Bands-1] = 1
		refused(t, f, modelFrame(t, f, p), "the last band joined")
		p.Joins[f.Bands-1] = 0
		holdFrame(t, f, p)
	}
}

// TestAnySides has any joins and scales, with their sum, and any bits behind them.
func TestAnySides(t *testing.T) {
	d := &drawer{seed: 24}
	good, bad := 0, 0
	for _, f := range everyFormat() {
		for kind := range 6 {
			var side, rest strings.Builder
			for side.Len() < sideLen(f) {
				side.WriteString(digits(d.draw()%2, 1))
			}
			size := 8*format.Payload(f) - 32 - sideLen(f)
			// The more bits are 1, the sooner one of them is no level's; those at the end are left 0 most of the time.
			for rest.Len() < size {
				bit := d.draw() % (2 + kind)
				if kind == 0 || kind > 1 && rest.Len() > size-24 {
					bit = 0
				}
				rest.WriteString(digits(min(bit, 1), 1))
			}
			if holdParse(t, f, sealed(f, side.String(), rest.String())) {
				good++
			} else {
				bad++
			}
		}
	}
	if good < 500 || bad < 500 {
		t.Errorf("P14.2: %d of these were frames, %d weren't", good, bad)
	}
}

// TestTurnedAnywhere turns any bits of good frames; what is behind joins and scales has no sum.
func TestTurnedAnywhere(t *testing.T) {
	d := &drawer{seed: 25}
	good, bad := 0, 0
	for _, f := range everyFormat() {
		frame := holdFrame(t, f, drawnParams(t, d, f))
		for range 12 {
			from := 32 + (d.draw()<<15|d.draw())%(8*len(frame)-40)
			if holdParse(t, f, turned(frame, from, digits(d.draw()%256, 8))) {
				good++
			} else {
				bad++
			}
		}
	}
	if good < 500 || bad < 500 {
		t.Errorf("P14.2: %d of these were frames, %d weren't", good, bad)
	}
}

func TestBytesToldAreTheCallers(t *testing.T) {
	d := &drawer{seed: 26}
	for _, f := range anyFormats(261) {
		p := drawnParams(t, d, f)
		kept := copiedParams(p)
		b, _ := Pack(f, p)
		want := bytes.Clone(b)
		for _, list := range numbersOf(p) {
			spoil(list)
		}
		if !bytes.Equal(b, want) {
			t.Fatalf("R4: what Pack told hangs on what was handed in")
		}
		other, _ := Pack(f, kept)
		spoil(b)
		if again, e := Pack(f, kept); e != api.OK || !bytes.Equal(again, want) || !bytes.Equal(other, want) {
			t.Fatalf("R6: Pack tells otherwise after an answer was changed")
		}
	}
}

func TestParsedIsTheCallers(t *testing.T) {
	d := &drawer{seed: 27}
	for _, f := range anyFormats(271) {
		want := drawnParams(t, d, f)
		frame := holdFrame(t, f, want)
		b := bytes.Clone(frame)
		p, _ := Parse(f, b)
		spoil(b)
		if !sameParams(p, want) {
			t.Fatalf("R4: what Parse told hangs on what was handed in")
		}
		other, _ := Parse(f, frame)
		spoilApart(t, "Parse", append(numbersOf(p), numbersOf(other)...))
		cutOuter(t, "Parse", append([][][]int{p.Scales, other.Scales}, append(p.Codes, other.Codes...)...))
		if again, e := Parse(f, frame); e != api.OK || !sameParams(again, want) {
			t.Fatalf("R6: Parse tells otherwise after an answer was changed")
		}
	}
}
