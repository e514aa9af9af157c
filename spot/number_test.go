package spot_test

import (
	"math"
	"testing"

	"sodality/api"
	"sodality/spot"
)

// The chapter's examples.
func TestExamples(t *testing.T) {
	want(t, "Index(1 + 2i)", spot.Index(1+2i), 9)
	wantSpot(t, "At(7)", spot.At(7), 3)
	wantSpot(t, "Meet(4, 6)", spot.Meet(4, 6), 2+1i)
}

func TestBounds(t *testing.T) {
	want(t, "how deep a tree may be", api.MaxDeep, maxDeep)
}

// P13.1 (P1): the nodes of a tree of three levels above its leaves, told by hand, and the deepest tree's last ones.
func TestNumbersByHand(t *testing.T) {
	for n, s := range []complex128{0, 1, 1i, 2, 2i, 1 + 1i, 3i, 3, 4i, 1 + 2i, 5i, 2 + 1i, 6i, 1 + 3i, 7i} {
		want(t, "Index", spot.Index(s), n)
		wantSpot(t, "At", spot.At(n), s)
	}
	for n, s := range map[int]complex128{65535: 16, 65534: 32767i, 65536: 32768i, 32767: 15, 98303: 15 + 1i, 131070: 65535i, 131069: 1 + 32767i} {
		want(t, "Index", spot.Index(s), n)
		wantSpot(t, "At", spot.At(n), s)
	}
}

// P13.1 (P1), P13.2: spots and numbers of the whole deepest tree tell one another, and numbers rise from left to right.
func TestNumbersOfAllSpots(t *testing.T) {
	all := allOf(maxDeep)
	want(t, "how many there are", len(all), allSpots)
	for n, p := range all {
		wantSpot(t, "At", spot.At(n), p.spot())
		want(t, "Index", spot.Index(p.spot()), n)
		want(t, "Index of At", spot.Index(spot.At(n)), n)
		wantSpot(t, "At of Index", spot.At(spot.Index(p.spot())), p.spot())
		want(t, "2^l (2 p + 1) - 1", spanOf(p.level(), 2*p.place()+1).from-1, n)
		if !spot.Right(spot.At(n), maxDeep) {
			t.Fatalf("At(%d) is not right in the deepest tree", n)
		}
	}
}

// P13.2: the numbers of a tree so deep are the first ones, and all that a deeper one has are greater.
func TestNumbersOfEachTree(t *testing.T) {
	for deep := range maxDeep + 1 {
		many := 2*spanOf(deep, 0).many - 1
		for n := range allSpots {
			if spot.Right(spot.At(n), deep) != (n < many) {
				t.Fatalf("At(%d) in a tree so deep as %d: right is %v", n, deep, n >= many)
			}
		}
	}
}

// P13.1 (P1): no spot has such a number.
func TestNumbersOfNoSpot(t *testing.T) {
	for _, n := range []int{
		-1, -2, -3, -65536, -131071, -131072, math.MinInt32, math.MinInt, math.MinInt + 1,
		131071, 131072, 131073, 196607, 262142, 262143, 1<<31 - 1, 1 << 31, 1<<32 - 1, 1 << 32, 1<<32 + 6, 1 << 62, math.MaxInt - 1, math.MaxInt,
	} {
		wantSpot(t, "At", spot.At(n), 0)
	}
}

// P13.1 (P1): leaves, all of them, and what is none.
func TestLeaves(t *testing.T) {
	for i := range allLeaves {
		wantSpot(t, "Leaf", spot.Leaf(i), complex(0, float64(i)))
		want(t, "a leaf's number", spot.Index(spot.Leaf(i)), 2*i)
	}
	for _, i := range noLeaves() {
		wantSpot(t, "Leaf of none", spot.Leaf(i), 0)
	}
}
