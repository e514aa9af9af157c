package spot_test

import (
	"math"
	"slices"
	"testing"

	"sodality/spot"
)

func want(t *testing.T, what string, got, want any) {
	t.Helper()
	if got != want {
		t.Fatalf("%s: got %v, want %v", what, got, want)
	}
}

// wantSpot holds a spot's parts against those wanted, bit by bit: no part of an answer is minus nought.
func wantSpot(t *testing.T, what string, got, want complex128) {
	t.Helper()
	if got != want || math.Signbit(real(got)) || math.Signbit(imag(got)) {
		t.Fatalf("%s: got %v, want %v", what, got, want)
	}
}

func wantSpots(t *testing.T, what string, got, want []complex128) {
	t.Helper()
	if !slices.Equal(got, want) {
		t.Fatalf("%s: got %v, want %v", what, got, want)
	}
	for _, s := range got {
		wantSpot(t, what, s, s)
	}
}

// wantTold ends a test if a call says of a spot, however its noughts are told, something else than the leaves below it do.
func wantTold(t *testing.T, s complex128, p span) {
	t.Helper()
	for _, deep := range deeps() {
		want(t, "Right", spot.Right(s, deep), p.isIn(deep))
	}
	want(t, "Index", spot.Index(s), p.number())
	wantSteps(t, s, p)
	for _, leaf := range []int{0, p.from - 1, p.from, p.from + p.many/2, p.from + p.many - 1, p.from + p.many, allLeaves - 1} {
		want(t, "Over", spot.Over(s, leaf), p.has(leaf) && leaf >= 0 && leaf < allLeaves)
	}
}

func wantSteps(t *testing.T, s complex128, p span) {
	t.Helper()
	var up, other, left, right complex128
	if p.many < allLeaves {
		up, other = p.up().spot(), p.other().spot()
	}
	if p.many > 1 {
		left, right = p.down(false).spot(), p.down(true).spot()
	}
	wantSpot(t, "Up", spot.Up(s), up)
	wantSpot(t, "Other", spot.Other(s), other)
	wantSpot(t, "Down to the left", spot.Down(s, false), left)
	wantSpot(t, "Down to the right", spot.Down(s, true), right)
}

// wantNone ends a test if a call says something of what is no spot at all.
func wantNone(t *testing.T, s complex128) {
	t.Helper()
	for _, deep := range deeps() {
		if spot.Right(s, deep) {
			t.Fatalf("%v is right in a tree so deep as %d", s, deep)
		}
	}
	if n := spot.Index(s); n != -1 {
		t.Fatalf("Index(%v): got %d, want -1", s, n)
	}
	for _, got := range []complex128{spot.Up(s), spot.Other(s), spot.Down(s, false), spot.Down(s, true)} {
		wantSpot(t, "a step from what is no spot", got, 0)
	}
	for _, leaf := range []int{-1, 0, 1, 2, 100, 32768, allLeaves - 1, allLeaves} {
		if spot.Over(s, leaf) {
			t.Fatalf("%v is over the leaf %d", s, leaf)
		}
	}
}
