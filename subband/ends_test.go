package subband

import (
	"bytes"
	"math"
	"slices"
	"testing"

	"psaltery/api"
	"psaltery/bank"
	"psaltery/format"
	"psaltery/poly"
)

// All three were reckoned apart, in another language, from the tables of cosines on.
const (
	wantFrames  = uint64(17308444856249974371)
	wantSamples = uint64(11347035099670788557)
	wantJoined  = 871
)

// mixer takes numbers into one sum, in which their order counts.
type mixer uint64

func newMixer() mixer { return 14695981039346656037 }

func (m *mixer) take(x int64) { *m = (*m ^ mixer(x)) * 1099511628211 }

func newEncoder(t *testing.T, b *bank.Bank, f api.Format) *Encoder {
	t.Helper()
	e, err := NewEncoder(b, f)
	if err != api.OK || e == nil {
		t.Fatalf("P14.3: NewEncoder of %+v: %v, %d", f, e != nil, err)
	}
	return e
}

func newDecoder(t *testing.T, b *bank.Bank, f api.Format) *Decoder {
	t.Helper()
	d, err := NewDecoder(b, f)
	if err != api.OK || d == nil {
		t.Fatalf("P14.3: NewDecoder of %+v: %v, %d", f, d != nil, err)
	}
	return d
}

// ownEncoder has splitters of its own, and works straight from the chapter's words.
type ownEncoder struct {
	t         *testing.T
	f         api.Format
	splitters []*poly.Splitter
}

func newOwnEncoder(t *testing.T, f api.Format) *ownEncoder {
	t.Helper()
	own := &ownEncoder{t: t, f: f}
	for range f.Channels {
		s, e := poly.NewSplitter(bank.New(), f.Bands)
		mustBe(t, e, "NewSplitter")
		own.splitters = append(own.splitters, s)
	}
	return own
}

func (own *ownEncoder) feed(samples []int16) []byte {
	own.t.Helper()
	f := own.f
	var planes [][][]int32
	for c, s := range own.splitters {
		var plane [][]int32
		for i := range f.Blocks {
			var block []int16
			for k := range f.Bands {
				block = append(block, samples[(i*f.Bands+k)*f.Channels+c])
			}
			numbers, e := s.Feed(block)
			mustBe(own.t, e, "Feed of a splitter")
			plane = append(plane, numbers)
		}
		planes = append(planes, plane)
	}
	return modelFrame(own.t, f, modelAnalyse(own.t, f, planes))
}

// ownDecoder has joiners of its own.
type ownDecoder struct {
	t       *testing.T
	f       api.Format
	joiners []*poly.Joiner
}

func newOwnDecoder(t *testing.T, f api.Format) *ownDecoder {
	t.Helper()
	own := &ownDecoder{t: t, f: f}
	for range f.Channels {
		j, e := poly.NewJoiner(bank.New(), f.Bands)
		mustBe(t, e, "NewJoiner")
		own.joiners = append(own.joiners, j)
	}
	return own
}

func (own *ownDecoder) play(planes [][][]int32) []int16 {
	own.t.Helper()
	f := own.f
	woven := make([]int16, f.Channels*f.Bands*f.Blocks)
	for c, j := range own.joiners {
		for i := range f.Blocks {
			samples, e := j.Feed(planes[c][i])
			mustBe(own.t, e, "Feed of a joiner")
			for k, x := range samples {
				woven[(i*f.Bands+k)*f.Channels+c] = x
			}
		}
	}
	return woven
}

// samplesBy puts a frame's samples together.
func samplesBy(f api.Format, sample func(i, channel int) int16) []int16 {
	var woven []int16
	for i := range f.Bands * f.Blocks {
		for c := range f.Channels {
			woven = append(woven, sample(i, c))
		}
	}
	return woven
}

// tone is a wave of a frame's samples, other in each channel.
func tone(f api.Format, frame int, step float64) []int16 {
	return samplesBy(f, func(i, c int) int16 {
		at := float64(frame*f.Bands*f.Blocks + i)
		return int16(12000 * math.Sin(step*at+float64(c)))
	})
}

// drawnSamples are a frame's; the second channel is another one, alike, opposite, or nearly alike.
func drawnSamples(d *drawer, f api.Format) []int16 {
	kind, shift := d.draw()%4, d.draw()%12
	var first int
	return samplesBy(f, func(i, c int) int16 {
		if c == 0 {
			first = (2*d.draw() - 32768) >> shift
			return int16(first)
		}
		x := d.draw()
		second := []int{(2*x - 32768) >> shift, first, -first, first + x%8}[kind]
		return int16(min(max(second, math.MinInt16), math.MaxInt16))
	})
}

// someFrames are silence, tones, ends, one sample alone, and drawn ones, frame after frame.
func someFrames(d *drawer, f api.Format) [][]int16 {
	silence := samplesBy(f, func(i, c int) int16 { return 0 })
	high := samplesBy(f, func(i, c int) int16 { return math.MaxInt16 })
	low := samplesBy(f, func(i, c int) int16 { return math.MinInt16 })
	turns := samplesBy(f, func(i, c int) int16 {
		if (i+c)%2 == 0 {
			return math.MinInt16
		}
		return math.MaxInt16
	})
	one := slices.Clone(silence)
	one[len(one)-1] = 20000
	return [][]int16{
		silence, tone(f, 1, 0.1), tone(f, 2, 0.1), tone(f, 3, 0.1), drawnSamples(d, f), drawnSamples(d, f),
		high, low, turns, turns, silence, one, tone(f, 0, 0.9), silence, silence, silence, silence, drawnSamples(d, f),
	}
}

// feedIs holds an encoder's frame, and the samples that it was handed, which the caller changes then.
func feedIs(t *testing.T, e *Encoder, f api.Format, samples []int16, want []byte) {
	t.Helper()
	handed := slices.Clone(samples)
	b, err := e.Feed(handed)
	if err != api.OK || !bytes.Equal(b, want) {
		t.Fatalf("P14.3: Feed of %+v: %x, %d, not %x", f, b, err, want)
	}
	if len(b) != format.Payload(f) {
		t.Fatalf("P14.4: a frame of %+v has %d bytes, not %d", f, len(b), format.Payload(f))
	}
	if !slices.Equal(handed, samples) {
		t.Fatalf("R4: Feed of %+v changes what it is handed", f)
	}
	spoil(handed)
	spoil(b)
}

// playIs holds a decoder's samples, and the planes that it was handed, which the caller changes then.
func playIs(t *testing.T, d *Decoder, f api.Format, planes [][][]int32, want []int16) {
	t.Helper()
	handed := copied(planes)
	samples, e := d.Play(handed)
	if e != api.OK || !slices.Equal(samples, want) {
		t.Fatalf("P14.3: Play of %+v: %v, %d, not %v", f, samples, e, want)
	}
	if !alike(handed, planes) {
		t.Fatalf("R4: Play of %+v changes what it is handed", f)
	}
	for _, plane := range handed {
		for _, block := range plane {
			spoil(block)
		}
	}
	spoil(samples)
}

// noSamples are lists that aren't a frame of f.
func noSamples(f api.Format) [][]int16 {
	frame := tone(f, 0, 0.3)
	n := len(frame)
	return [][]int16{nil, {}, frame[:1], frame[:n/2], frame[:n-1], frame[:n-2], frame[:n-f.Bands*f.Channels], append(slices.Clone(frame), 1), append(slices.Clone(frame), 1, 2), append(slices.Clone(frame), frame...)}
}

func TestEncoder(t *testing.T) {
	d := &drawer{seed: 30}
	shared := bank.New()
	for _, f := range anyFormats(301) {
		e, own := newEncoder(t, shared, f), newOwnEncoder(t, f)
		for _, samples := range someFrames(d, f) {
			feedIs(t, e, f, samples, own.feed(samples))
			// What is no frame changes nothing of those that follow.
			for _, wrong := range noSamples(f) {
				if b, err := e.Feed(wrong); len(b) != 0 || err != api.ErrArg {
					t.Fatalf("P14.3: Feed of %+v of %d samples: %x, %d", f, len(wrong), b, err)
				}
			}
		}
	}
}

func TestDecoder(t *testing.T) {
	d := &drawer{seed: 31}
	shared := bank.New()
	for _, f := range anyFormats(311) {
		dec, own := newDecoder(t, shared, f), newOwnDecoder(t, f)
		wrong := noPlanes(f)
		for i := range 2 * planeKinds {
			planes := drawnPlanes(d, f, i%planeKinds)
			playIs(t, dec, f, planes, own.play(planes))
			for range 3 {
				none := wrong[d.draw()%len(wrong)]
				if samples, e := dec.Play(none); len(samples) != 0 || e != api.ErrArg {
					t.Fatalf("P14.3: Play of %+v of %v: %v, %d", f, none, samples, e)
				}
			}
		}
	}
}

func TestNoPlanesToPlay(t *testing.T) {
	for _, f := range everyKind() {
		f.Pool = 7
		dec, own := newDecoder(t, bank.New(), f), newOwnDecoder(t, f)
		for _, planes := range noPlanes(f) {
			if samples, e := dec.Play(planes); len(samples) != 0 || e != api.ErrArg {
				t.Fatalf("P14.3: Play of %+v of %v: %v, %d", f, planes, samples, e)
			}
		}
		planes := drawnPlanes(&drawer{seed: 1}, f, 8)
		playIs(t, dec, f, planes, own.play(planes))
	}
}

// TestFramesPlayed is a frame's whole way, held against own splitters and joiners.
func TestFramesPlayed(t *testing.T) {
	d := &drawer{seed: 32}
	for _, f := range anyFormats(321) {
		b := bank.New()
		e, dec, own := newEncoder(t, b, f), newDecoder(t, b, f), newOwnDecoder(t, f)
		for _, samples := range someFrames(d, f) {
			frame, err := e.Feed(samples)
			mustBe(t, err, "P14.4: Feed")
			p, err := Parse(f, frame)
			mustBe(t, err, "P14.4: Parse of a frame that was fed")
			holdFrame(t, f, p)
			planes := holdPlanes(t, f, p)
			playIs(t, dec, f, planes, own.play(planes))
		}
	}
}

func TestReset(t *testing.T) {
	d := &drawer{seed: 33}
	for _, f := range anyFormats(331) {
		b := bank.New()
		e, dec := newEncoder(t, b, f), newDecoder(t, b, f)
		for range 3 {
			e.Reset()
			dec.Reset()
			own, ownDec := newOwnEncoder(t, f), newOwnDecoder(t, f)
			fresh, freshDec := newEncoder(t, b, f), newDecoder(t, b, f)
			for range 1 + d.draw()%12 {
				samples, planes := drawnSamples(d, f), drawnPlanes(d, f, 8)
				frame, played := own.feed(samples), ownDec.play(planes)
				feedIs(t, e, f, samples, frame)
				feedIs(t, fresh, f, samples, frame)
				playIs(t, dec, f, planes, played)
				playIs(t, freshDec, f, planes, played)
			}
		}
	}
}

// TestSeveral has two of one bank and format that don't know of one another.
func TestSeveral(t *testing.T) {
	d := &drawer{seed: 34}
	b := bank.New()
	for _, f := range []api.Format{mono(4, 4, 12), joint(8, 16, 99), joint(4, 8, 40)} {
		e, other := newEncoder(t, b, f), newEncoder(t, b, f)
		own, ownOther := newOwnEncoder(t, f), newOwnEncoder(t, f)
		dec, otherDec := newDecoder(t, b, f), newDecoder(t, b, f)
		ownDec, ownOtherDec := newOwnDecoder(t, f), newOwnDecoder(t, f)
		for i := range 12 {
			samples, more := drawnSamples(d, f), drawnSamples(d, f)
			feedIs(t, e, f, samples, own.feed(samples))
			feedIs(t, other, f, more, ownOther.feed(more))
			planes, others := drawnPlanes(d, f, 8), drawnPlanes(d, f, 1)
			playIs(t, dec, f, planes, ownDec.play(planes))
			playIs(t, otherDec, f, others, ownOtherDec.play(others))
			if i == 6 {
				other.Reset()
				otherDec.Reset()
				ownOther, ownOtherDec = newOwnEncoder(t, f), newOwnDecoder(t, f)
			}
		}
	}
}

// The chapter's example, and all of its frame; nothing but 0 is played of it.
func TestExample(t *testing.T) {
	f := mono(4, 4, 2)
	e, dec := newEncoder(t, bank.New(), f), newDecoder(t, bank.New(), f)
	for range 3 {
		b, err := e.Feed(make([]int16, 16))
		if err != api.OK || string(b) != "\x9c\x00\x02\x6b\x00\x00\x55" {
			t.Fatalf("P14.3: Feed of 0: %x, %d", b, err)
		}
		p, err := Parse(f, b)
		mustBe(t, err, "P14.2: Parse")
		planes, err := Planes(f, p)
		mustBe(t, err, "P14.1: Planes")
		playIs(t, dec, f, planes, make([]int16, 16))
	}
}

// TestReckonedApart holds the whole chain, tables and bands and bits, against what was reckoned apart.
func TestReckonedApart(t *testing.T) {
	d := &drawer{seed: 11}
	frames, played, joined := newMixer(), newMixer(), 0
	for _, f := range everyKind() {
		f.Pool = 2 + d.draw()%(min(250, 16*f.Bands*f.Channels)-1)
		if format.Check(f) != api.OK {
			f.Pool = 2
		}
		b := bank.New()
		e, dec := newEncoder(t, b, f), newDecoder(t, b, f)
		for range 3 {
			frame, err := e.Feed(drawnSamples(d, f))
			mustBe(t, err, "P14.3: Feed")
			for _, x := range frame {
				frames.take(int64(x))
			}
			p, err := Parse(f, frame)
			mustBe(t, err, "P14.2: Parse")
			for _, join := range p.Joins {
				joined += join
			}
			planes, err := Planes(f, p)
			mustBe(t, err, "P14.1: Planes")
			samples, err := dec.Play(planes)
			mustBe(t, err, "P14.3: Play")
			for _, x := range samples {
				played.take(int64(x))
			}
		}
	}
	if uint64(frames) != wantFrames {
		t.Errorf("P14.3: all frames have the sum %d, not %d", frames, wantFrames)
	}
	if uint64(played) != wantSamples {
		t.Errorf("P14.3: all samples have the sum %d, not %d", played, wantSamples)
	}
	if joined != wantJoined {
		t.Errorf("P14.1: %d bands were joined, not %d", joined, wantJoined)
	}
}

func TestNoEnds(t *testing.T) {
	for _, f := range noFormats() {
		for _, b := range []*bank.Bank{nil, bank.New()} {
			if e, err := NewEncoder(b, f); e != nil || err != api.ErrForm {
				t.Errorf("P14.3: NewEncoder of %+v: %v, %d", f, e, err)
			}
			if d, err := NewDecoder(b, f); d != nil || err != api.ErrForm {
				t.Errorf("P14.3: NewDecoder of %+v: %v, %d", f, d, err)
			}
		}
	}
	for _, f := range everyFormat() {
		if e, err := NewEncoder(nil, f); e != nil || err != api.ErrNil {
			t.Errorf("P14.3: NewEncoder of nil: %v, %d", e, err)
		}
		if d, err := NewDecoder(nil, f); d != nil || err != api.ErrNil {
			t.Errorf("P14.3: NewDecoder of nil: %v, %d", d, err)
		}
	}
}

// TestNil asks nil ahead of all else, of what is right and of what is wrong.
func TestNil(t *testing.T) {
	var e *Encoder
	var d *Decoder
	f := mono(4, 4, 9)
	for _, samples := range append(noSamples(f), tone(f, 0, 0.1)) {
		if b, err := e.Feed(samples); len(b) != 0 || err != api.ErrNil {
			t.Errorf("P14.3: Feed of nil: %x, %d", b, err)
		}
	}
	for _, planes := range append(noPlanes(f), planesBy(f, func(c, i, k int) int32 { return 1 })) {
		if samples, err := d.Play(planes); len(samples) != 0 || err != api.ErrNil {
			t.Errorf("P14.3: Play of nil: %v, %d", samples, err)
		}
	}
	e.Reset()
	d.Reset()
}
