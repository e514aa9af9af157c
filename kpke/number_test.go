package kpke_test

import (
	"math"
	"testing"

	"sodality/api"
	"sodality/kpke"
	"sodality/trial"
)

// numbers are those at the edges, and around each multiple of q and of some powers of 2.
func numbers() []int {
	out := []int{
		0, 1, 832, 833, 1664, 1665, 2496, 2497, 3327, 3328, 3329, 3330,
		-1, -2, -1664, -1665, -3328, -3329, -3330,
		math.MinInt, math.MinInt + 1, math.MaxInt, math.MaxInt - 1,
		math.MinInt32, math.MinInt32 - 1, math.MaxInt32, math.MaxInt32 + 1,
		math.MaxInt / q * q, math.MinInt / q * q, math.MaxInt/q*q - 1, math.MinInt/q*q + 1,
	}
	for d := range 14 {
		out = append(out, 1<<d-1, 1<<d, 1<<d+1, -1<<d-1, -1<<d, -1<<d+1)
	}
	return out
}

// widths are the bits that there may be, and more and fewer.
func widths() []int {
	out := []int{math.MinInt, math.MinInt + 1, -12, -4, 64, 128, 1 << 32, 1<<32 + 4, math.MaxInt - 3, math.MaxInt}
	for d := -2; d <= 16; d++ {
		out = append(out, d)
	}
	return out
}

// P5.1 (N3): the chapter's examples.
func TestExamples(t *testing.T) {
	if a, b := kpke.Squeeze(1, 832), kpke.Squeeze(1, 833); a != 0 || b != 1 {
		t.Errorf("Squeeze(1, 832), Squeeze(1, 833): got %d and %d", a, b)
	}
	if n := kpke.Stretch(1, 1); n != 1665 {
		t.Errorf("Stretch(1, 1): got %d", n)
	}
}

// P5.1 (N3): numbers that were worked out by hand.
func TestSqueezeAndStretchByHand(t *testing.T) {
	for _, x := range [][3]int{
		{1, 0, 0}, {1, 1664, 1}, {1, 1665, 1}, {1, 2496, 1}, {1, 2497, 0}, {1, 3328, 0}, {1, 3329 + 833, 1}, {1, -833, 1}, {1, -832, 0},
		{4, 104, 0}, {4, 105, 1}, {4, 1664, 8}, {4, 3224, 15}, {4, 3225, 0}, {4, -1, 0},
		{10, 1, 0}, {10, 2, 1}, {10, 1664, 512}, {10, 3327, 1023}, {10, 3328, 0}, {11, 1, 1}, {11, 3328, 2047}, {11, 1664, 1024},
	} {
		if n := kpke.Squeeze(x[0], x[1]); n != x[2] {
			t.Errorf("Squeeze(%d, %d): got %d, want %d", x[0], x[1], n, x[2])
		}
	}
	for _, x := range [][3]int{
		{1, 0, 0}, {1, 2, 0}, {1, 3, 1665}, {1, -1, 1665}, {2, 1, 832}, {2, 2, 1665}, {2, 3, 2497}, {2, 7, 2497},
		{4, 1, 208}, {4, 8, 1665}, {4, 15, 3121}, {4, 16, 0}, {10, 1, 3}, {10, 512, 1665}, {10, 1023, 3326}, {11, 1, 2}, {11, 2047, 3327},
	} {
		if n := kpke.Stretch(x[0], x[1]); n != x[2] {
			t.Errorf("Stretch(%d, %d): got %d, want %d", x[0], x[1], n, x[2])
		}
	}
}

// P5.1 (N3): all bits, all numbers from 0 to q - 1 and those at the edges.
func TestSqueezeAndStretch(t *testing.T) {
	all := numbers()
	for n := range q {
		all = append(all, n)
	}
	for _, d := range widths() {
		for _, n := range all {
			if got, want := kpke.Squeeze(d, n), plainSqueeze(d, n); got != want {
				t.Fatalf("Squeeze(%d, %d): got %d, want %d", d, n, got, want)
			}
			if got, want := kpke.Stretch(d, n), plainStretch(d, n); got != want {
				t.Fatalf("Stretch(%d, %d): got %d, want %d", d, n, got, want)
			}
		}
	}
}

// P5.1 (N3): bits of 0, 12, 13 and below 0 are none, of Squeeze and of Stretch.
func TestSqueezeBounds(t *testing.T) {
	for _, d := range []int{0, 12, 13, -1, -11, math.MinInt, math.MaxInt} {
		for _, n := range []int{1, 1664, 1665, 3328, -1, math.MaxInt} {
			if a, b := kpke.Squeeze(d, n), kpke.Stretch(d, n); a != 0 || b != 0 {
				t.Errorf("bits %d, number %d: got %d and %d", d, n, a, b)
			}
		}
	}
	if a, b := kpke.Squeeze(11, 3328), kpke.Stretch(11, 2047); a == 0 || b == 0 {
		t.Errorf("bits 11: got %d and %d", a, b)
	}
}

// apart is how far two numbers are from each other, the way around q that is shorter.
func apart(a, b int) int {
	n := plainMod(a-b, q)
	return min(n, q-n)
}

// P5.3: what is squeezed and stretched comes within 3329 / 2^(d + 1) and a half, here times 2^(d + 1).
func TestSqueezedAndStretchedIsNear(t *testing.T) {
	for d := 1; d <= 11; d++ {
		for n := -q; n <= 2*q; n++ {
			back := kpke.Stretch(d, kpke.Squeeze(d, n))
			if back < 0 || back >= q {
				t.Fatalf("bits %d, number %d: comes back as %d", d, n, back)
			}
			if apart(back, n)<<(d+1) > q+1<<d {
				t.Fatalf("bits %d, number %d: comes back as %d", d, n, back)
			}
		}
	}
}

// What is stretched and squeezed is what it was: no two numbers of so many bits are stretched to one.
func TestStretchedAndSqueezed(t *testing.T) {
	for d := 1; d <= 11; d++ {
		for n := range 1 << d {
			if got := kpke.Squeeze(d, kpke.Stretch(d, n)); got != n {
				t.Fatalf("bits %d, number %d: comes back as %d", d, n, got)
			}
		}
	}
}

// P5.1 (N4): Encode brings numbers below 2^d; of 12 bits below q, which no other number of bits does.
func TestEncodeOfEdges(t *testing.T) {
	for d := 1; d <= 12; d++ {
		for _, n := range numbers() {
			p := alternate(n, 1)
			trial.WantBytes(t, "Encode", kpke.Encode(d, p), plainEncode(d, p))
			p = alternate(0, n)
			trial.WantBytes(t, "Encode", kpke.Encode(d, p), plainEncode(d, p))
		}
	}
	trial.WantBytes(t, "3329 of 12 bits", kpke.Encode(12, alternate(q, q)), make([]byte, 384))
	trial.WantBytes(t, "-1 of 12 bits", kpke.Encode(12, alternate(-1, -1))[:3], []byte{0x00, 0x0d, 0xd0})
	trial.WantBytes(t, "3329 of 11 bits", kpke.Encode(11, alternate(q, 0))[:2], []byte{0x01, 0x05})
	trial.WantBytes(t, "-1 of 4 bits", kpke.Encode(4, alternate(-1, 0))[:2], []byte{0x0f, 0x0f})
	trial.WantBytes(t, "-1 of 1 bit", kpke.Encode(1, alternate(-1, 0))[:2], []byte{0x55, 0x55})
}

// P5.1 (N4): no bits, or more than 12, are nothing; 1 and 12 bits are something.
func TestEncodeBounds(t *testing.T) {
	for _, d := range widths() {
		want := 0
		if d >= 1 && d <= 12 {
			want = 32 * d
		}
		if got := kpke.Encode(d, alternate(5, 3)); len(got) != want {
			t.Errorf("Encode of %d bits: got %d bytes, want %d", d, len(got), want)
		}
	}
}

// alternate has one number at even places, another one at odd places.
func alternate(even, odd int) api.Poly {
	var p api.Poly
	for i := 0; i < len(p); i += 2 {
		p[i], p[i+1] = even, odd
	}
	return p
}
