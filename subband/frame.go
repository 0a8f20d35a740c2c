package subband

import (
	"bytes"
	"slices"

	"psaltery/api"
	"psaltery/bits"
	"psaltery/check"
	"psaltery/format"
)

const (
	byteBits = 8
	// mark is what every frame begins with.
	mark = 156
	// sumAt is the byte that has the sum, in the midst of what the sum is of.
	sumAt     = 3
	joinBits  = 1
	scaleBits = 4
)

// taking is how a number of so many bits is taken: put into a frame as it is, or changed into what stands there.
type taking func(number *int, width int)

// field has all its numbers taken in the way that it is handed.
type field func(take taking)

// Pack: a frame.
func Pack(f api.Format, p Params) ([]byte, api.Errno) {
	if e := refuse(f, p); e != api.OK {
		return nil, e
	}
	pad, _ := bits.New(format.Payload(f))
	takeAll(f, p, putting(pad))
	b := pad.Bytes()
	b[sumAt] = sumOf(f, b)
	return b, api.OK
}

// Parse: the parameters of a frame.
func Parse(f api.Format, b []byte) (Params, api.Errno) {
	if !isSub(f) {
		return Params{}, api.ErrForm
	}
	if len(b) != format.Payload(f) {
		return Params{}, api.ErrFrame
	}
	eye, _ := bits.Open(b)
	p := blankParams(f)
	takeAll(f, p, finding(eye))
	// What was read are its parameters just if they make the same frame: so nothing that stands there goes unasked.
	if again, e := Pack(f, p); e != api.OK || !bytes.Equal(again, b) {
		return Params{}, api.ErrFrame
	}
	return p, api.OK
}

func takeAll(f api.Format, p Params, take taking) {
	for _, all := range fields(f, p) {
		all(take)
	}
}

// fields are those of a frame, in order, whichever way they are taken.
func fields(f api.Format, p Params) []field {
	return []field{
		known(mark, 8),
		known(f.Rate, 2),
		known(f.Blocks/4-1, 2),
		known(2*(f.Channels-1)+f.Joint, 2),
		known(f.Method, 1),
		known(f.Bands/8, 1),
		known(f.Pool, 8),
		// The sum has its place alone: it is reckoned of fields that stand behind it, too.
		known(0, byteBits),
		func(take taking) {
			if f.Joint == 1 {
				takeRow(p.Joins, joinBits, take)
			}
		},
		func(take taking) {
			for _, scales := range p.Scales {
				takeRow(scales, scaleBits, take)
			}
		},
		// The bits of codes hang on the scales, which were taken by now.
		func(take taking) {
			shares := sharesOf(f, p)
			for at := range places(f) {
				take(&p.Codes[at.block][at.channel][at.band], shares[at.channel][at.band])
			}
		},
	}
}

// known is a field that the format alone tells: what is read in its place goes no further.
func known(number, width int) field {
	return func(take taking) { take(&number, width) }
}

func takeRow(row []int, width int, take taking) {
	for i := range row {
		take(&row[i], width)
	}
}

// putting drops the error: the pad has a frame's bits, and no number has more than its width.
func putting(pad *bits.Pad) taking {
	return func(number *int, width int) { pad.Front(uint32(*number), width) }
}

// finding drops the error: the eye has a frame's bits.
func finding(eye *bits.Eye) taking {
	return func(number *int, width int) {
		found, _ := eye.Front(width)
		*number = int(found)
	}
}

// sumOf is of the bytes between the mark and the sum, and of the bits of joins and scales behind it.
func sumOf(f api.Format, b []byte) byte {
	ahead := b[1:sumAt]
	n := byteBits*len(ahead) + scaleBits*f.Bands*f.Channels
	if f.Joint == 1 {
		n += joinBits * f.Bands
	}
	sum, _ := check.Bits(byteBits, slices.Concat(ahead, b[sumAt+1:]), n)
	return byte(sum)
}
