package spot_test

import (
	"testing"

	"sodality/spot"
)

// wantMeet ends a test if two leaves, in either order, do not meet where they should: at the lowest spot that is over both.
func wantMeet(t *testing.T, a, b int) {
	t.Helper()
	s := spot.Meet(a, b)
	wantSpot(t, "Meet", s, plainMeet(a, b))
	wantSpot(t, "Meet, the other way round", spot.Meet(b, a), s)
	if !spot.Over(s, a) || !spot.Over(s, b) {
		t.Fatalf("Meet(%d, %d): %v is not over both", a, b, s)
	}
	if a == b {
		wantSpot(t, "where a leaf meets itself", s, spot.Leaf(a))
		return
	}
	for _, right := range []bool{false, true} {
		below := spot.Down(s, right)
		if spot.Over(below, a) == spot.Over(below, b) {
			t.Fatalf("Meet(%d, %d): %v, below %v, is over both, or over none", a, b, below, s)
		}
	}
}

// P13.1 (P4): told by hand.
func TestMeetByHand(t *testing.T) {
	for _, x := range []struct {
		a, b int
		want complex128
	}{
		{0, 0, 0}, {0, 1, 1}, {0, 2, 2}, {0, 3, 2}, {1, 2, 2}, {2, 3, 1 + 1i}, {3, 3, 3i}, {3, 4, 3}, {4, 6, 2 + 1i}, {5, 7, 2 + 1i},
		{0, 65535, 16}, {32767, 32768, 16}, {32768, 65535, 15 + 1i}, {65534, 65535, 1 + 32767i}, {65535, 65535, 65535i},
		{-1, 3, 0}, {3, -1, 0}, {-1, -1, 0}, {65536, 3, 0}, {65536, 65536, 0},
	} {
		wantSpot(t, "Meet", spot.Meet(x.a, x.b), x.want)
		wantSpot(t, "Meet, the other way round", spot.Meet(x.b, x.a), x.want)
	}
}

// P13.1 (P4): all leaves of a tree that is not deep, each with each.
func TestMeetInATreeThatIsNotDeep(t *testing.T) {
	for a := range 128 {
		for b := range 128 {
			wantMeet(t, a, b)
		}
	}
}

// P13.1 (P4): in the deepest tree each leaf with itself and with the one beside it, some with each other one, and many with many.
func TestMeetInTheDeepestTree(t *testing.T) {
	for a := range allLeaves {
		wantMeet(t, a, a)
		wantMeet(t, a, int(imag(spot.Other(spot.Leaf(a)))))
		for _, b := range []int{0, 1, 43690, allLeaves - 1} {
			wantMeet(t, a, b)
		}
	}
	for _, a := range someLeaves() {
		for _, b := range someLeaves() {
			wantMeet(t, a, b)
		}
	}
}

// P13.1 (P4): where one of both is no leaf, or both are none.
func TestMeetOfNoLeaf(t *testing.T) {
	for _, a := range noLeaves() {
		for _, b := range append(someLeaves(), noLeaves()...) {
			wantSpot(t, "Meet", spot.Meet(a, b), 0)
			wantSpot(t, "Meet, the other way round", spot.Meet(b, a), 0)
		}
	}
}

// P13.1 (P4): told by hand.
func TestOverByHand(t *testing.T) {
	for _, x := range []struct {
		s    complex128
		leaf int
		want bool
	}{
		{0, 0, true}, {0, 1, false}, {1i, 1, true}, {1i, 0, false}, {1, 0, true}, {1, 1, true}, {1, 2, false},
		{2 + 1i, 3, false}, {2 + 1i, 4, true}, {2 + 1i, 7, true}, {2 + 1i, 8, false}, {16, 0, true}, {16, 65535, true}, {65535i, 65535, true},
		{16, 65536, false}, {16, -1, false}, {2, 65536, false}, {17, 0, false}, {0.5, 0, false}, {0.5i, 0, false}, {-1, 0, false}, {16 + 1i, 65536, false}, {-1i, -1, false},
	} {
		if got := spot.Over(x.s, x.leaf); got != x.want {
			t.Errorf("Over(%v, %d): got %v", x.s, x.leaf, got)
		}
	}
}

// P13.1 (P4): all spots of a tree over all leaves of one that is one deeper, and many of the deepest tree over many of its leaves.
func TestOver(t *testing.T) {
	for _, p := range allOf(6) {
		for leaf := range 128 {
			want(t, "Over", spot.Over(p.spot(), leaf), p.has(leaf))
		}
	}
	for _, p := range someOf() {
		for _, leaf := range someLeaves() {
			want(t, "Over", spot.Over(p.spot(), leaf), p.has(leaf))
		}
		for _, leaf := range noLeaves() {
			want(t, "Over no leaf", spot.Over(p.spot(), leaf), false)
		}
	}
}

// P13.1 (P4): over a leaf are its spot, and those of its path, alone.
func TestOverIsThePath(t *testing.T) {
	for _, leaf := range someLeaves() {
		over := map[complex128]bool{spot.Leaf(leaf): true}
		for _, s := range spot.Path(leaf, maxDeep) {
			over[s] = true
		}
		for n := range allSpots {
			s := spot.At(n)
			if spot.Over(s, leaf) != over[s] {
				t.Fatalf("Over(%v, %d): got %v", s, leaf, !over[s])
			}
		}
	}
}

// P3: the same arguments again, behind other calls and such as have nothing to say.
func TestAskedAgain(t *testing.T) {
	for _, p := range someOf() {
		s := p.spot()
		wantTold(t, s, p)
		wantNone(t, s+0.5)
		spot.At(-1)
		spot.Path(p.from, maxDeep)
		wantMeet(t, p.from, p.from+p.many-1)
		wantTold(t, s, p)
	}
}
