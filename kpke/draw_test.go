package kpke

import (
	"bytes"
	"iter"
	"slices"
	"testing"

	"sodality/api"
	"sodality/keccak"
)

// Nobody knows a seed whose bytes are too few, so what stands here looks inside: at what is told of a seed, and at what is made of what was told.

// told is so many numbers that are below q, each with one that is not ahead of it and one behind it.
func told(good int) iter.Seq[int] {
	return func(yield func(int) bool) {
		for i := range good {
			if !yield(3329) || !yield(i) || !yield(4095) {
				return
			}
		}
	}
}

// P5.1 (N1): from 256 numbers on there is a polynomial, whatever stands between them; of 255 there is none.
func TestDrawn(t *testing.T) {
	for _, good := range []int{256, 257, 1120} {
		p, err := drawn(told(good))
		for i, n := range p {
			if n != i || err != api.OK {
				t.Fatalf("%d good ones: got %d at %d, %v", good, n, i, err)
			}
		}
	}
	for _, good := range []int{0, 1, 255} {
		if p, err := drawn(told(good)); err != api.ErrDraw || p != (api.Poly{}) {
			t.Errorf("%d good ones: got %v and %v", good, err, p)
		}
	}
}

// P5.1 (N1): 3328 may be drawn, 3329 not.
func TestDrawnBounds(t *testing.T) {
	p, err := drawn(slices.Values(slices.Repeat([]int{3328}, 256)))
	if err != api.OK || p[0] != 3328 || p[255] != 3328 {
		t.Errorf("of 3328: got %v and %v", err, p)
	}
	if _, err := drawn(slices.Values(slices.Repeat([]int{3329}, 1120))); err != api.ErrDraw {
		t.Errorf("of 3329: got %v", err)
	}
}

// P5.1 (N1): what is told of a seed is 1680 bytes of SHAKE128, no more and no fewer, x and y of each three.
func TestCandidates(t *testing.T) {
	for _, seed := range [][]byte{make([]byte, 34), bytes.Repeat([]byte{255}, 34)} {
		b := keccak.Shake128(seed, 1680)
		var want []int
		for ; len(b) > 0; b = b[3:] {
			want = append(want, int(b[0])+256*(int(b[1])%16), int(b[1])/16+16*int(b[2]))
		}
		if got := slices.Collect(candidates(seed)); !slices.Equal(got, want) {
			t.Errorf("of %x: got %d numbers, want %d", seed, len(got), len(want))
		}
	}
}
