package spot_test

import (
	"encoding/binary"
	"math"
	"testing"

	"sodality/spot"
	"sodality/trial"
)

// isIn is Right in the chapter's words.
func isIn(level, place, deep int) bool {
	return deep >= 0 && deep <= maxDeep && level >= 0 && level <= deep && place >= 0 && place <= spanOf(deep-level, 0).many-1
}

func wantRight(t *testing.T, level, place, deep int) {
	t.Helper()
	s := complex(float64(level), float64(place))
	if got := spot.Right(s, deep); got != isIn(level, place, deep) {
		t.Fatalf("Right(%v, %d): got %v", s, deep, got)
	}
	if !isIn(level, place, maxDeep) {
		wantNone(t, s)
	}
}

// P13.1 (P1): all levels and places of trees that are not deep, and those around them.
func TestRightInTreesThatAreNotDeep(t *testing.T) {
	for deep := range 7 {
		many := 0
		for level := -2; level <= deep+2; level++ {
			for place := -2; place <= spanOf(deep, 0).many+2; place++ {
				wantRight(t, level, place, deep)
				if spot.Right(complex(float64(level), float64(place)), deep) {
					many++
				}
			}
		}
		want(t, "how many are right", many, 2*spanOf(deep, 0).many-1)
	}
}

// P13.1 (P1): trees of all depths, and of such as none has, with the first and last places of each level, and those next to them.
func TestRightAtTheEdges(t *testing.T) {
	for _, deep := range deeps() {
		for level := -1; level <= maxDeep+1; level++ {
			for _, at := range []int{deep, maxDeep} {
				last := 0
				if at >= level && at <= maxDeep && level >= 0 {
					last = spanOf(at-level, 0).many - 1
				}
				for _, place := range []int{-2, -1, 0, 1, last - 1, last, last + 1, last + 2, 2*last + 1} {
					wantRight(t, level, place, deep)
				}
			}
		}
	}
}

// P13.1 (P1): told by hand.
func TestRightByHand(t *testing.T) {
	for _, x := range []struct {
		s    complex128
		deep int
		want bool
	}{
		{0, 0, true}, {1i, 0, false}, {1, 0, false}, {-1, 0, false}, {-1i, 0, false},
		{1, 1, true}, {1i, 1, true}, {2i, 1, false}, {1 + 1i, 1, false}, {2, 1, false}, {1 + 1i, 2, true},
		{16, 16, true}, {16 + 1i, 16, false}, {17, 16, false}, {15 + 1i, 16, true}, {15 + 2i, 16, false},
		{65535i, 16, true}, {65536i, 16, false}, {65535i, 15, false}, {32767i, 15, true}, {32768i, 15, false},
		{0, -1, false}, {0, 17, false}, {17, 17, false}, {1, 17, false}, {0, 64, false}, {0, math.MaxInt, false}, {0, math.MinInt, false},
	} {
		if got := spot.Right(x.s, x.deep); got != x.want {
			t.Errorf("Right(%v, %d): got %v", x.s, x.deep, got)
		}
	}
}

// P13.1 (P1): what is right in a tree is right in each that is deeper, and in none that is no tree.
func TestRightInDeeperTrees(t *testing.T) {
	for _, p := range someOf() {
		was := false
		for deep := range maxDeep + 1 {
			is := spot.Right(p.spot(), deep)
			if was && !is {
				t.Fatalf("%v is right in a tree so deep as %d, and not in the next", p.spot(), deep-1)
			}
			was = is
		}
		want(t, "right in the deepest tree", was, true)
		for _, deep := range noDeeps() {
			want(t, "right in no tree", spot.Right(p.spot(), deep), false)
		}
	}
}

// P13.1: a part that is no level, or no place: not whole, below nothing, too great, infinite, or no number at all; by itself, and both.
func TestPartsThatAreNone(t *testing.T) {
	for _, x := range noParts() {
		for _, level := range []float64{0, math.Copysign(0, -1), 1, 2, 15, 16} {
			wantNone(t, complex(level, x))
		}
		if x == math.Floor(x) && x >= 0 && x <= maxDeep {
			t.Fatalf("%v is a level", x)
		}
		for _, place := range []float64{0, math.Copysign(0, -1), 1, 2, 32768, allLeaves - 1} {
			wantNone(t, complex(x, place))
		}
		for _, y := range noParts() {
			wantNone(t, complex(x, y))
		}
	}
}

// P13.1: a nought is one, whatever its sign, and no answer has minus nought.
func TestMinusNought(t *testing.T) {
	minus := math.Copysign(0, -1)
	for level := range maxDeep + 1 {
		wantTold(t, complex(float64(level), minus), spanOf(level, 0))
	}
	for _, place := range []int{1, 2, 3, 4, 100, 32767, 32768, allLeaves - 2, allLeaves - 1} {
		wantTold(t, complex(minus, float64(place)), spanOf(0, place))
	}
	for _, s := range []complex128{complex(0, minus), complex(minus, 0), complex(minus, minus)} {
		wantTold(t, s, spanOf(0, 0))
	}
	wantNone(t, complex(17, minus))
	wantNone(t, complex(minus, allLeaves))
	wantNone(t, complex(minus, -1))
	wantNone(t, complex(-1, minus))
}

// P13.1, P1: whatever bits both parts have, each call ends, and says what the parts say.
func TestWhateverBits(t *testing.T) {
	for which := range 2000 {
		b := trial.Ordinary(16, which)
		x, y := math.Float64frombits(binary.BigEndian.Uint64(b)), math.Float64frombits(binary.BigEndian.Uint64(b[8:]))
		if x == math.Floor(x) || y == math.Floor(y) && math.Abs(y) < 1e9 {
			continue
		}
		wantNone(t, complex(x, y))
		wantNone(t, complex(float64(b[0]%17), y))
		wantNone(t, complex(x, float64(b[0])))
	}
}
