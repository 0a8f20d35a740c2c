package subband

import (
	"slices"

	"psaltery/api"
	"psaltery/bank"
	"psaltery/format"
	"psaltery/pcm"
	"psaltery/poly"
)

// Encoder makes frames of samples.
type Encoder struct {
	format    api.Format
	splitters []*poly.Splitter
}

// Decoder makes samples of planes.
type Decoder struct {
	format  api.Format
	joiners []*poly.Joiner
}

// NewEncoder: of a format.
func NewEncoder(b *bank.Bank, f api.Format) (*Encoder, api.Errno) {
	splitters, e := ofChannels(b, f, poly.NewSplitter)
	if e != api.OK {
		return nil, e
	}
	return &Encoder{f, splitters}, api.OK
}

// Feed: the samples of a frame.
func (e *Encoder) Feed(woven []int16) ([]byte, api.Errno) {
	if e == nil {
		return nil, api.ErrNil
	}
	channels, err := pcm.Part(woven, e.format.Channels)
	// All is asked ahead of the first splitter, which would keep what it was fed.
	if err != api.OK || len(channels[0]) != format.Samples(e.format) {
		return nil, api.ErrArg
	}
	planes := make([][][]int32, len(channels))
	for channel, splitter := range e.splitters {
		planes[channel] = split(splitter, channels[channel], e.format.Bands)
	}
	p, err := Analyse(e.format, planes)
	if err != api.OK {
		return nil, err
	}
	return Pack(e.format, p)
}

// Reset: as new.
func (e *Encoder) Reset() {
	if e == nil {
		return
	}
	for _, splitter := range e.splitters {
		splitter.Reset()
	}
}

// NewDecoder: of a format.
func NewDecoder(b *bank.Bank, f api.Format) (*Decoder, api.Errno) {
	joiners, e := ofChannels(b, f, poly.NewJoiner)
	if e != api.OK {
		return nil, e
	}
	return &Decoder{f, joiners}, api.OK
}

// Play: samples of planes.
func (d *Decoder) Play(planes [][][]int32) ([]int16, api.Errno) {
	if d == nil {
		return nil, api.ErrNil
	}
	if !arePlanes(d.format, planes) {
		return nil, api.ErrArg
	}
	channels := make([][]int16, len(planes))
	for channel, joiner := range d.joiners {
		channels[channel] = join(joiner, planes[channel])
	}
	return pcm.Weave(channels)
}

// Reset: as new.
func (d *Decoder) Reset() {
	if d == nil {
		return
	}
	for _, joiner := range d.joiners {
		joiner.Reset()
	}
}

// ofChannels makes one of a kind for each channel of a format.
func ofChannels[T any](b *bank.Bank, f api.Format, one func(b *bank.Bank, bands int) (T, api.Errno)) ([]T, api.Errno) {
	if !isSub(f) {
		return nil, api.ErrForm
	}
	list := make([]T, f.Channels)
	for channel := range list {
		made, e := one(b, f.Bands)
		if e != api.OK {
			return nil, e
		}
		list[channel] = made
	}
	return list, api.OK
}

// split drops the error: each block has a sample for each band.
func split(splitter *poly.Splitter, samples []int16, bands int) [][]int32 {
	var plane [][]int32
	for block := range slices.Chunk(samples, bands) {
		numbers, _ := splitter.Feed(block)
		plane = append(plane, numbers)
	}
	return plane
}

// join drops the error: each block has a number of each band.
func join(joiner *poly.Joiner, plane [][]int32) []int16 {
	var samples []int16
	for _, numbers := range plane {
		block, _ := joiner.Feed(numbers)
		samples = append(samples, block...)
	}
	return samples
}
