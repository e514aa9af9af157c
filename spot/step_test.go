package spot_test

import (
	"testing"

	"sodality/spot"
)

// P13.1 (P2): told by hand.
func TestStepsByHand(t *testing.T) {
	for _, x := range []struct{ s, up, other, left, right complex128 }{
		{0, 1, 1i, 0, 0},
		{1i, 1, 0, 0, 0},
		{2i, 1 + 1i, 3i, 0, 0},
		{7i, 1 + 3i, 6i, 0, 0},
		{65535i, 1 + 32767i, 65534i, 0, 0},
		{1, 2, 1 + 1i, 0, 1i},
		{1 + 1i, 2, 1, 2i, 3i},
		{1 + 2i, 2 + 1i, 1 + 3i, 4i, 5i},
		{3 + 5i, 4 + 2i, 3 + 4i, 2 + 10i, 2 + 11i},
		{15, 16, 15 + 1i, 14, 14 + 1i},
		{15 + 1i, 16, 15, 14 + 2i, 14 + 3i},
		{16, 0, 0, 15, 15 + 1i},
		{17, 0, 0, 0, 0},
		{1 + 32768i, 0, 0, 0, 0},
		{16 + 1i, 0, 0, 0, 0},
		{-1, 0, 0, 0, 0},
		{1 - 1i, 0, 0, 0, 0},
	} {
		wantSpot(t, "Up", spot.Up(x.s), x.up)
		wantSpot(t, "Other", spot.Other(x.s), x.other)
		wantSpot(t, "Down to the left", spot.Down(x.s, false), x.left)
		wantSpot(t, "Down to the right", spot.Down(x.s, true), x.right)
	}
}

// P13.1 (P2): all spots of the deepest tree, its top and its leaves among them.
func TestStepsOfAllSpots(t *testing.T) {
	for _, p := range allOf(maxDeep) {
		wantSteps(t, p.spot(), p)
	}
}

// P13.1: all that the calls say of a spot, of all of a tree that is not deep, and of many of the deepest one.
func TestWhatIsSaidOfSpots(t *testing.T) {
	for _, p := range append(allOf(6), someOf()...) {
		wantTold(t, p.spot(), p)
	}
}

// P13.3: below each spot that is no leaf are two, which are beside one another, and whose Up it is; the left one's number is less, the right one's more.
func TestBelow(t *testing.T) {
	for _, p := range allOf(maxDeep) {
		s := p.spot()
		if p.many == 1 {
			continue
		}
		left, right := spot.Down(s, false), spot.Down(s, true)
		wantSpot(t, "beside the left one", spot.Other(left), right)
		wantSpot(t, "beside the right one", spot.Other(right), left)
		wantSpot(t, "above the left one", spot.Up(left), s)
		wantSpot(t, "above the right one", spot.Up(right), s)
		if spot.Index(left) >= spot.Index(s) || spot.Index(s) >= spot.Index(right) {
			t.Fatalf("%v: its number is not between those of both below it", s)
		}
	}
}

// P13.1 (P2), P13.3: what is beside is beside back, has the same above it, and is not the same spot; each but the top has one.
func TestBesideBack(t *testing.T) {
	for _, p := range allOf(maxDeep) {
		s := p.spot()
		other := spot.Other(s)
		if p.many == allLeaves {
			wantSpot(t, "beside the top", other, 0)
			continue
		}
		if other == s || real(other) != real(s) {
			t.Fatalf("%v is beside %v", other, s)
		}
		wantSpot(t, "beside back", spot.Other(other), s)
		wantSpot(t, "above what is beside", spot.Up(other), spot.Up(s))
	}
}
