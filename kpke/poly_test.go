package kpke_test

import (
	"bytes"
	"math/rand"
	"testing"

	"sodality/api"
	"sodality/kpke"
	"sodality/trial"
)

func random(r *rand.Rand, n int) []byte {
	b := make([]byte, n)
	r.Read(b)
	return b
}

// wantNoPoly: beside an error there is nothing.
func wantNoPoly(t *testing.T, what string, p api.Poly, got, want api.Errno) {
	t.Helper()
	trial.WantErr(t, what, got, want)
	trial.WantPoly(t, what, p, api.Poly{})
}

// P5.1 (N1).
func TestUniform(t *testing.T) {
	for _, seed := range trial.Seeds(34, 200) {
		p, err := kpke.Uniform(seed)
		trial.WantErr(t, "Uniform", err, api.OK)
		trial.WantPoly(t, "Uniform", p, plainUniform(seed))
	}
}

func TestUniformOfWrongLengths(t *testing.T) {
	for _, n := range append(trial.Around(34), 32) {
		p, err := kpke.Uniform(make([]byte, n))
		wantNoPoly(t, "Uniform", p, err, api.ErrArg)
	}
	p, err := kpke.Uniform(nil)
	wantNoPoly(t, "Uniform(nil)", p, err, api.ErrArg)
}

// P5.1 (N2).
func TestCentred(t *testing.T) {
	for _, b := range trial.Seeds(128, 100) {
		p, err := kpke.Centred(b)
		trial.WantErr(t, "Centred", err, api.OK)
		trial.WantPoly(t, "Centred", p, plainCentred(b))
	}
}

func TestCentredOfWrongLengths(t *testing.T) {
	for _, n := range trial.Around(128) {
		p, err := kpke.Centred(bytes.Repeat([]byte{1}, n))
		wantNoPoly(t, "Centred", p, err, api.ErrArg)
	}
	p, err := kpke.Centred(nil)
	wantNoPoly(t, "Centred(nil)", p, err, api.ErrArg)
}

// P5.1 (N2): all bits 0, or all 1, are nothing left; the first two of four add, the others take away.
func TestCentredOfAlike(t *testing.T) {
	for _, x := range [][3]int{
		{0, 0, 0}, {255, 0, 0}, {0x01, 1, 0}, {0x02, 1, 0}, {0x03, 2, 0}, {0x04, 3328, 0}, {0x08, 3328, 0}, {0x0c, 3327, 0},
		{0x05, 0, 0}, {0x07, 1, 0}, {0x0d, 3328, 0}, {0x10, 0, 1}, {0x20, 0, 1}, {0x30, 0, 2}, {0x40, 0, 3328}, {0xc0, 0, 3327}, {0x3c, 3327, 2},
	} {
		p, err := kpke.Centred(bytes.Repeat([]byte{byte(x[0])}, 128))
		trial.WantErr(t, "Centred", err, api.OK)
		trial.WantPoly(t, "Centred", p, alternate(x[1], x[2]))
	}
}

// P5.4: of each byte, at each place, numbers are from -2 to 2, and all of these are there.
func TestCentredNumbers(t *testing.T) {
	seen := map[int]int{}
	for v := range 256 {
		b := bytes.Repeat([]byte{byte(v)}, 128)
		p, _ := kpke.Centred(b)
		for _, n := range p {
			seen[n]++
		}
	}
	for _, b := range trial.Seeds(128, 50) {
		p, _ := kpke.Centred(b)
		for _, n := range p {
			seen[n]++
		}
	}
	for _, n := range []int{0, 1, 2, 3327, 3328} {
		if seen[n] == 0 {
			t.Errorf("%d is never there", n)
		}
		delete(seen, n)
	}
	if len(seen) > 0 {
		t.Errorf("there are others: %v", seen)
	}
}

// P5.1 (N4).
func TestEncode(t *testing.T) {
	for d := 1; d <= 12; d++ {
		for which := range 20 {
			p := trial.Wild(20*d + which)
			trial.WantBytes(t, "Encode", kpke.Encode(d, p), plainEncode(d, p))
		}
	}
}

// P5.1 (N4): one bit alone stands where it must.
func TestEncodeOfOneBit(t *testing.T) {
	for d := 1; d <= 11; d++ {
		for i := range 256 {
			var p api.Poly
			p[i] = 1 << (d - 1)
			want := make([]byte, 32*d)
			at := i*d + d - 1
			want[at/8] = 1 << (at % 8)
			trial.WantBytes(t, "Encode", kpke.Encode(d, p), want)
		}
	}
}

func TestDecode(t *testing.T) {
	for d := 1; d <= 12; d++ {
		for _, b := range trial.Seeds(32*d, 20) {
			p, err := kpke.Decode(d, b)
			trial.WantErr(t, "Decode", err, api.OK)
			trial.WantPoly(t, "Decode", p, plainDecode(d, b))
		}
	}
}

// P5.1 (N4): all bits 1 are 2^d - 1; of 12 bits 4095 less 3329.
func TestDecodeOfAlike(t *testing.T) {
	for d := 1; d <= 12; d++ {
		p, err := kpke.Decode(d, make([]byte, 32*d))
		trial.WantErr(t, "Decode of 0", err, api.OK)
		trial.WantPoly(t, "Decode of 0", p, api.Poly{})
		want := 1<<d - 1
		if d == 12 {
			want = 766
		}
		p, err = kpke.Decode(d, bytes.Repeat([]byte{255}, 32*d))
		trial.WantErr(t, "Decode of 255", err, api.OK)
		trial.WantPoly(t, "Decode of 255", p, alternate(want, want))
	}
}

// P5.1 (N4): of 12 bits 3328 stays, 3329 is 0.
func TestDecodeAroundTheModulus(t *testing.T) {
	p, err := kpke.Decode(12, bytes.Repeat([]byte{0x00, 0x1d, 0xd0}, 128))
	trial.WantErr(t, "Decode", err, api.OK)
	trial.WantPoly(t, "Decode", p, alternate(3328, 0))
}

func TestDecodeOfWrongLengths(t *testing.T) {
	for d := 1; d <= 12; d++ {
		for _, n := range append(trial.Around(32*d), 32*(d+1), 32*(d-1)) {
			p, err := kpke.Decode(d, bytes.Repeat([]byte{255}, n))
			wantNoPoly(t, "Decode", p, err, api.ErrBytes)
		}
		p, err := kpke.Decode(d, nil)
		wantNoPoly(t, "Decode of nil", p, err, api.ErrBytes)
	}
}

// P5.1 (N4), P2: bits that may not be are named ahead of bytes that are none.
func TestDecodeBounds(t *testing.T) {
	for _, d := range widths() {
		if d >= 1 && d <= 12 {
			continue
		}
		for _, n := range []int{0, 1, 32, 128, 384, 416} {
			p, err := kpke.Decode(d, bytes.Repeat([]byte{255}, n))
			wantNoPoly(t, "Decode", p, err, api.ErrArg)
		}
	}
}

// P5.2: what is decoded is encoded as it stood, below 12 bits.
func TestDecodedIsEncodedAsItStood(t *testing.T) {
	for d := 1; d <= 11; d++ {
		for _, b := range trial.Seeds(32*d, 30) {
			p, err := kpke.Decode(d, b)
			trial.WantErr(t, "Decode", err, api.OK)
			trial.WantBytes(t, "Encode of Decode", kpke.Encode(d, p), b)
		}
	}
}

// P5.2: what is encoded is decoded as it was, once its numbers are below 2^d, or q.
func TestEncodedIsDecodedAsItWas(t *testing.T) {
	for d := 1; d <= 12; d++ {
		polys := []api.Poly{{}, alternate(plainModulus(d)-1, 0), alternate(0, plainModulus(d)-1)}
		for which := range 30 {
			polys = append(polys, plainBrought(d, trial.Wild(30*d+which)))
		}
		for _, p := range polys {
			back, err := kpke.Decode(d, kpke.Encode(d, p))
			trial.WantErr(t, "Decode of Encode", err, api.OK)
			trial.WantPoly(t, "Decode of Encode", back, p)
		}
	}
}
