package pack_test

import (
	"math"
	"testing"

	"sodality/api"
	"sodality/pack"
	"sodality/trial"
)

// noBits are those that no number may have.
var noBits = []int{0, 21, -1, 22, -20, 31, 32, 63, 64, 65, 256, -64, 1 << 32, 1<<32 + 1, math.MinInt, math.MinInt + 1, math.MaxInt, math.MaxInt - 1}

// places are those of a polynomial at which a test of one number tries it.
var places = []int{0, 1, 127, 128, 254, 255}

// below are polynomials whose numbers are below 2^d, of all kinds.
func below(d int) []api.Poly {
	q := trial.Modulus(1 << d)
	out := []api.Poly{{}, trial.All(1), trial.All(-1), trial.All(1 << (d - 1)), trial.All(1 << d / 3), q.Mixed(d), trial.Alone(255, -1)}
	for which := range 4 {
		out = append(out, trial.Wild(20*which+d))
	}
	var rising api.Poly
	for i := range rising {
		rising[i] = i
	}
	out = append(out, rising)
	for i, p := range out {
		out[i] = q.Brought(p)
	}
	return out
}

func unpacked(t *testing.T, d int, b []byte) api.Poly {
	t.Helper()
	p, err := pack.Unpack(d, b)
	trial.WantErr(t, "Unpack", err, api.OK)
	return p
}

// wantPacked: p's bytes are those, and such bytes are p's.
func wantPacked(t *testing.T, d int, p api.Poly, b []byte) {
	t.Helper()
	trial.WantBytes(t, "Pack", pack.Pack(d, p), b)
	trial.WantPoly(t, "Unpack", unpacked(t, d, b), p)
}

// P9.1 (F1): the chapter's example, and some more that are told by hand.
func TestPackByHand(t *testing.T) {
	head := func(n int, b ...byte) []byte { return trial.Joined(b, make([]byte, n-len(b))) }
	tail := func(n int, b ...byte) []byte { return trial.Joined(make([]byte, n-len(b)), b) }
	wantPacked(t, 4, api.Poly{1, 2}, head(128, 0x21))
	wantPacked(t, 1, api.Poly{1, 0, 1, 1}, head(32, 0x0d))
	wantPacked(t, 1, api.Poly{9: 1, 255: 1}, trial.Joined([]byte{0, 2}, tail(30, 0x80)))
	wantPacked(t, 3, api.Poly{1, 2, 7}, head(96, 0xd1, 0x01))
	wantPacked(t, 8, api.Poly{1, 2, 255}, head(256, 1, 2, 255))
	wantPacked(t, 10, api.Poly{1, 1023, 512}, head(320, 0x01, 0xfc, 0x0f, 0x20))
	wantPacked(t, 10, api.Poly{255: 1023}, tail(320, 0xc0, 0xff))
	wantPacked(t, 13, api.Poly{8191, 1}, head(416, 0xff, 0x3f))
	wantPacked(t, 13, api.Poly{0, 4096, 1}, head(416, 0, 0, 0, 0x06))
	wantPacked(t, 13, api.Poly{255: 8191}, tail(416, 0xf8, 0xff))
	wantPacked(t, 20, api.Poly{0x12345, 0x6789a}, head(640, 0x45, 0x23, 0xa1, 0x89, 0x67))
	wantPacked(t, 20, api.Poly{255: 0x80001}, tail(640, 0x10, 0x00, 0x80))
}

// P9.1 (F1), P9.2: for all d, 0, 1 and 2^d - 1 in each place, alone, and among such as are not 0.
func TestPackInEachPlace(t *testing.T) {
	for d := 1; d <= 20; d++ {
		most := 1<<d - 1
		for i := range api.N {
			for _, n := range []int{0, 1, most} {
				alone, among := trial.Alone(i, n), trial.All(most)
				among[i] = n
				wantPacked(t, d, alone, plainPack(d, alone))
				wantPacked(t, d, among, plainPack(d, among))
			}
		}
	}
}

// P9.1 (F1), P9.2: polynomials of all kinds, and any bytes.
func TestPackThereAndBack(t *testing.T) {
	for d := 1; d <= 20; d++ {
		for _, p := range below(d) {
			wantPacked(t, d, p, plainPack(d, p))
		}
		for _, b := range trial.Seeds(32*d, 6) {
			p := unpacked(t, d, b)
			trial.WantPoly(t, "of any bytes", p, plainUnpack(d, b))
			trial.WantBytes(t, "put again", pack.Pack(d, p), b)
		}
	}
}

// P9.1 (F1): each bit of each byte is one of a number's, and no other one's.
func TestUnpackOfOneBit(t *testing.T) {
	for d := 1; d <= 20; d++ {
		for at := range 256 * d {
			b := make([]byte, 32*d)
			b[at/8] = 1 << (at % 8)
			wantPacked(t, d, trial.Alone(at/d, 1<<(at%d)), b)
		}
	}
}

// P9.1 (F1), P2.
func TestPackWithNoSuchBits(t *testing.T) {
	for _, d := range noBits {
		for _, p := range []api.Poly{{}, trial.All(1), trial.All(-1), trial.Wild(1)} {
			trial.WantBytes(t, "Pack", pack.Pack(d, p), nil)
		}
		for _, n := range []int{0, 1, 31, 32, 33, 640, 672, 704, 1024, 8192} {
			p, err := pack.Unpack(d, trial.Ordinary(n, 1))
			trial.WantErr(t, "Unpack", err, api.ErrArg)
			trial.WantPoly(t, "beside an error", p, api.Poly{})
		}
		_, err := pack.Unpack(d, nil)
		trial.WantErr(t, "Unpack of nil", err, api.ErrArg)
	}
}

// P9.1 (F1): one number outside is enough, wherever it stands.
func TestPackOfNumbersOutside(t *testing.T) {
	for d := 1; d <= 20; d++ {
		outside := []int{-1, 1 << d, -1 << d, 1<<d + 1, 1 << 20, 1 << 21, 1 << 32, 1<<32 + 1, -1 << 32, math.MinInt, math.MinInt + 1, math.MaxInt}
		for _, i := range places {
			for _, n := range outside {
				p, among := trial.Alone(i, n), trial.All(1)
				among[i] = n
				trial.WantBytes(t, "alone", pack.Pack(d, p), nil)
				trial.WantBytes(t, "among others", pack.Pack(d, among), nil)
			}
		}
		trial.WantBytes(t, "any numbers", pack.Pack(d, trial.Wild(d)), nil)
	}
}

// P9.1 (F1), P2.
func TestUnpackOfWrongLengths(t *testing.T) {
	for d := 1; d <= 20; d++ {
		for _, n := range append(trial.Around(32*d), 32*d-32, 32*d+32) {
			if n == 32*d {
				continue
			}
			p, err := pack.Unpack(d, trial.Ordinary(n, 2))
			trial.WantErr(t, "Unpack", err, api.ErrBytes)
			trial.WantPoly(t, "beside an error", p, api.Poly{})
		}
		_, err := pack.Unpack(d, nil)
		trial.WantErr(t, "Unpack of nil", err, api.ErrBytes)
	}
}
