package format

import (
	"math"
	"testing"

	"psaltery/api"
)

// model tells of any fields whether they are a format, and its samples, bytes and bits, by the chapter's words, one field at a time.
func model(f api.Format) (is bool, samples, bytes, bits int) {
	if f.Rate < 0 || f.Rate > 3 || f.Channels != 1 && f.Channels != 2 {
		return
	}
	switch f.Codec {
	case 1:
		if f.Bands != 4 && f.Bands != 8 || f.Method != 0 && f.Method != 1 || f.Length != 0 || f.Bytes != 0 {
			return
		}
		if f.Blocks != 4 && f.Blocks != 8 && f.Blocks != 12 && f.Blocks != 16 {
			return
		}
		if f.Joint != 0 && (f.Joint != 1 || f.Channels == 1) {
			return
		}
		if f.Pool < 2 || f.Pool > 250 || f.Pool > 16*f.Bands*f.Channels {
			return
		}
		bits = 32 + f.Joint*f.Bands + 4*f.Bands*f.Channels + f.Blocks*f.Pool
		for bytes*8 < bits {
			bytes++
		}
		if bytes > 512 {
			return false, 0, 0, 0
		}
		return true, f.Bands * f.Blocks, bytes, bits
	case 2:
		if f.Bands != 0 || f.Blocks != 0 || f.Method != 0 || f.Joint != 0 || f.Pool != 0 {
			return
		}
		if f.Length != 40 && f.Length != 60 && f.Length != 80 && f.Length != 120 || f.Bytes < 20 || f.Bytes > 120 {
			return
		}
		return true, f.Length, f.Bytes * f.Channels, 8 * f.Bytes
	}
	return
}

func hold(t *testing.T, f api.Format) bool {
	t.Helper()
	is, samples, bytes, bits := model(f)
	want := api.ErrForm
	if is {
		want = api.OK
	}
	if e := Check(f); e != want {
		t.Fatalf("P11.1: Check of %+v tells %d, not %d", f, e, want)
	}
	if s, p, b := Samples(f), Payload(f), Bits(f); s != samples || p != bytes || b != bits {
		t.Fatalf("P11.1: %+v has %d samples, %d bytes, %d bits, not %d, %d, %d", f, s, p, b, samples, bytes, bits)
	}
	return is
}

func refused(t *testing.T, f api.Format) {
	t.Helper()
	if e := Check(f); e != api.ErrForm {
		t.Errorf("P11.1: Check of %+v tells %d", f, e)
	}
	if s, p, b := Samples(f), Payload(f), Bits(f); s != 0 || p != 0 || b != 0 {
		t.Errorf("P11.1: %+v is no format, but has %d samples, %d bytes, %d bits", f, s, p, b)
	}
}

// subFields goes through the fields of Sub, with some numbers beside those that may be.
func subFields(tell func(f api.Format)) {
	for rate := -1; rate <= 4; rate++ {
		for channels := 0; channels <= 3; channels++ {
			for _, bands := range []int{0, 3, 4, 5, 6, 7, 8, 9, 16} {
				for blocks := 0; blocks <= 20; blocks++ {
					for method := -1; method <= 2; method++ {
						for joint := -1; joint <= 2; joint++ {
							tell(api.Format{Codec: 1, Rate: rate, Channels: channels, Bands: bands, Blocks: blocks, Method: method, Joint: joint})
						}
					}
				}
			}
		}
	}
}

func TestEveryFormatOfSub(t *testing.T) {
	formats, least, most := 0, math.MaxInt, 0
	subFields(func(f api.Format) {
		pools := []int{1, 2, 64, 250}
		f.Pool = 2
		if is, _, _, _ := model(f); is {
			pools = pools[:0]
			for pool := -1; pool <= 258; pool++ {
				pools = append(pools, pool)
			}
		}
		for _, f.Pool = range pools {
			if !hold(t, f) {
				continue
			}
			formats++
			least, most = min(least, Payload(f)), max(most, Payload(f))
			bounds(t, f)
		}
	})
	// Reckoned apart, field by field, by a loop in another language.
	if formats != subFormats || least != 7 || most != 512 {
		t.Errorf("P11.2: %d formats of %d to %d bytes", formats, least, most)
	}
}

// subFormats is how many formats of Sub there are.
const subFormats = 30136

func bounds(t *testing.T, f api.Format) {
	t.Helper()
	if s := Samples(f); s < 16 || s > 128 {
		t.Errorf("P11.2: %+v has %d samples", f, s)
	}
	if p := Payload(f); p < 7 || p > 512 {
		t.Errorf("P11.2: %+v has %d bytes", f, p)
	}
}

func TestEveryFormatOfLap(t *testing.T) {
	formats := 0
	for rate := -1; rate <= 4; rate++ {
		for channels := -1; channels <= 3; channels++ {
			for length := -1; length <= 241; length++ {
				step := 1
				if length%20 != 0 {
					step = 17
				}
				for bytes := -1; bytes <= 130; bytes += step {
					f := api.Format{Codec: 2, Rate: rate, Channels: channels, Length: length, Bytes: bytes}
					if hold(t, f) {
						formats++
						bounds(t, f)
					}
				}
			}
		}
	}
	if formats != 4*2*4*101 {
		t.Errorf("P11.1: %d formats of Lap", formats)
	}
}

func TestWrittenOutFormats(t *testing.T) {
	for _, x := range []struct {
		f                    api.Format
		samples, bytes, bits int
	}{
		{api.Format{Codec: 1, Channels: 1, Bands: 4, Blocks: 4, Pool: 2}, 16, 7, 56},
		{api.Format{Codec: 1, Channels: 1, Bands: 4, Blocks: 4, Pool: 3}, 16, 8, 60},
		{api.Format{Codec: 1, Channels: 1, Bands: 4, Blocks: 4, Pool: 4}, 16, 8, 64},
		{api.Format{Codec: 1, Channels: 1, Bands: 4, Blocks: 4, Pool: 64}, 16, 38, 304},
		{api.Format{Codec: 1, Channels: 1, Bands: 8, Blocks: 12, Pool: 128, Method: 1}, 96, 200, 1600},
		{api.Format{Codec: 1, Channels: 2, Bands: 4, Blocks: 16, Pool: 128, Joint: 1}, 64, 265, 2116},
		{api.Format{Codec: 1, Channels: 2, Bands: 8, Blocks: 12, Pool: 250, Joint: 1, Rate: 3}, 96, 388, 3104},
		{api.Format{Codec: 1, Channels: 2, Bands: 8, Blocks: 16, Pool: 250}, 128, 512, 4096},
		{api.Format{Codec: 1, Channels: 2, Bands: 8, Blocks: 16, Pool: 249, Joint: 1}, 128, 511, 4088},
		{api.Format{Codec: 2, Channels: 1, Length: 40, Bytes: 20}, 40, 20, 160},
		{api.Format{Codec: 2, Channels: 2, Length: 40, Bytes: 20}, 40, 40, 160},
		{api.Format{Codec: 2, Channels: 1, Length: 120, Bytes: 120, Rate: 3}, 120, 120, 960},
		{api.Format{Codec: 2, Channels: 2, Length: 120, Bytes: 120, Rate: 1}, 120, 240, 960},
		{api.Format{Codec: 2, Channels: 2, Length: 80, Bytes: 37, Rate: 2}, 80, 74, 296},
	} {
		if e, s, p, b := Check(x.f), Samples(x.f), Payload(x.f), Bits(x.f); e != api.OK || s != x.samples || p != x.bytes || b != x.bits {
			t.Errorf("P11.1: %+v: error %d, %d samples, %d bytes, %d bits, not %d, %d, %d", x.f, e, s, p, b, x.samples, x.bytes, x.bits)
		}
	}
}

// fields are those of a format one by one, so that each can be changed in turn.
func fields(f *api.Format) map[string]*int {
	return map[string]*int{
		"Codec": &f.Codec, "Rate": &f.Rate, "Channels": &f.Channels, "Bands": &f.Bands, "Blocks": &f.Blocks,
		"Method": &f.Method, "Joint": &f.Joint, "Pool": &f.Pool, "Length": &f.Length, "Bytes": &f.Bytes,
	}
}

func TestAnyFieldAlone(t *testing.T) {
	samples := []api.Format{
		{Codec: 1, Channels: 1, Bands: 4, Blocks: 4, Pool: 2},
		{Codec: 1, Rate: 3, Channels: 2, Bands: 8, Blocks: 16, Method: 1, Joint: 1, Pool: 53},
		{Codec: 1, Rate: 1, Channels: 2, Bands: 4, Blocks: 12, Pool: 128},
		{Codec: 2, Channels: 1, Length: 40, Bytes: 20},
		{Codec: 2, Rate: 3, Channels: 2, Length: 120, Bytes: 120},
	}
	numbers := []int{math.MinInt, math.MinInt + 1, math.MinInt32, -1 << 20, -4, -2, math.MaxInt32, 1 << 40, 1<<62 + 4, math.MaxInt - 1, math.MaxInt}
	for n := -1; n <= 300; n++ {
		numbers = append(numbers, n)
	}
	for _, f := range samples {
		if Check(f) != api.OK {
			t.Fatalf("P11.1: %+v is refused", f)
		}
		for name := range fields(&f) {
			for _, n := range numbers {
				g := f
				*fields(&g)[name] = n
				hold(t, g)
			}
		}
	}
}

// Fields that are too great together must not come out as a format by going round.
func TestExtremeFieldsTogether(t *testing.T) {
	ends := []int{math.MinInt, -1, 0, 1, 1 << 32, 1 << 60, 1 << 61, 1 << 62, math.MaxInt}
	for _, codec := range []int{1, 2} {
		for _, a := range ends {
			for _, b := range ends {
				for _, c := range ends {
					refused(t, api.Format{Codec: codec, Channels: 2, Bands: a, Blocks: b, Pool: c})
					refused(t, api.Format{Codec: codec, Channels: a, Bands: b, Blocks: 4, Pool: c})
					refused(t, api.Format{Codec: codec, Channels: a, Length: b, Bytes: c})
					refused(t, api.Format{Codec: codec, Rate: a, Channels: 1, Length: b, Bytes: c})
				}
			}
		}
	}
}

func TestWrittenOutFaults(t *testing.T) {
	for _, f := range []api.Format{
		{},
		{Codec: 0, Channels: 1, Bands: 4, Blocks: 4, Pool: 2},
		{Codec: 3, Channels: 1, Bands: 4, Blocks: 4, Pool: 2},
		{Codec: -1, Channels: 1, Bands: 4, Blocks: 4, Pool: 2},
		{Codec: 0, Channels: 1, Length: 40, Bytes: 20},
		{Codec: 3, Channels: 1, Length: 40, Bytes: 20},
		{Codec: 1, Channels: 1, Length: 40, Bytes: 20},
		{Codec: 2, Channels: 1, Bands: 4, Blocks: 4, Pool: 2},
		{Codec: 1, Channels: 1, Bands: 4, Blocks: 4, Joint: 1, Pool: 2},
		{Codec: 1, Channels: 1, Bands: 4, Blocks: 4, Pool: 1},
		{Codec: 1, Channels: 1, Bands: 4, Blocks: 4, Pool: 65},
		{Codec: 1, Channels: 2, Bands: 4, Blocks: 4, Pool: 129},
		{Codec: 1, Channels: 1, Bands: 8, Blocks: 4, Pool: 129},
		{Codec: 1, Channels: 2, Bands: 8, Blocks: 4, Pool: 251},
		{Codec: 1, Channels: 2, Bands: 8, Blocks: 16, Joint: 1, Pool: 250},
		{Codec: 1, Channels: 1, Bands: 4, Blocks: 4, Pool: 2, Length: 40},
		{Codec: 1, Channels: 1, Bands: 4, Blocks: 4, Pool: 2, Bytes: 20},
		{Codec: 2, Channels: 1, Length: 40, Bytes: 20, Bands: 4},
		{Codec: 2, Channels: 1, Length: 40, Bytes: 20, Blocks: 4},
		{Codec: 2, Channels: 1, Length: 40, Bytes: 20, Method: 1},
		{Codec: 2, Channels: 2, Length: 40, Bytes: 20, Joint: 1},
		{Codec: 2, Channels: 1, Length: 40, Bytes: 20, Pool: 2},
		{Codec: 2, Channels: 1, Length: 100, Bytes: 20},
		{Codec: 2, Channels: 1, Length: 40, Bytes: 19},
		{Codec: 2, Channels: 2, Length: 40, Bytes: 121},
	} {
		refused(t, f)
	}
}
