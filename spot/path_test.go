package spot_test

import (
	"slices"
	"testing"

	"sodality/spot"
)

// P13.1 (P3): told by hand.
func TestPathsByHand(t *testing.T) {
	for _, x := range []struct {
		leaf, deep   int
		path, beside []complex128
	}{
		{0, 0, nil, nil},
		{0, 1, []complex128{1}, []complex128{1i}},
		{1, 1, []complex128{1}, []complex128{0}},
		{2, 2, []complex128{1 + 1i, 2}, []complex128{3i, 1}},
		{5, 3, []complex128{1 + 2i, 2 + 1i, 3}, []complex128{4i, 1 + 3i, 2}},
		{5, 4, []complex128{1 + 2i, 2 + 1i, 3, 4}, []complex128{4i, 1 + 3i, 2, 3 + 1i}},
		{1, 0, nil, nil}, {2, 1, nil, nil}, {8, 3, nil, nil}, {-1, 3, nil, nil}, {0, -1, nil, nil}, {0, 17, nil, nil},
	} {
		wantSpots(t, "Path", spot.Path(x.leaf, x.deep), x.path)
		wantSpots(t, "Beside", spot.Beside(x.leaf, x.deep), x.beside)
	}
}

// P13.1 (P3): all leaves of all trees.
func TestPathsOfAllLeaves(t *testing.T) {
	for deep := range maxDeep + 1 {
		for leaf := range spanOf(deep, 0).many {
			wantSpots(t, "Path", spot.Path(leaf, deep), plainPath(leaf, deep))
			wantSpots(t, "Beside", spot.Beside(leaf, deep), plainBeside(leaf, deep))
		}
	}
}

// P13.1 (P3): a path is Up, again and again; beside it is Other of the leaf's spot, and of all but the last one.
func TestPathsByOtherCalls(t *testing.T) {
	for deep := 1; deep <= maxDeep; deep++ {
		for _, leaf := range someLeaves() {
			if leaf >= spanOf(deep, 0).many {
				continue
			}
			path, s := spot.Path(leaf, deep), spot.Leaf(leaf)
			beside := []complex128{spot.Other(s)}
			for _, up := range path[:deep-1] {
				beside = append(beside, spot.Other(up))
			}
			wantSpots(t, "Beside", spot.Beside(leaf, deep), beside)
			for _, up := range path {
				s = spot.Up(s)
				wantSpot(t, "of a path", up, s)
			}
			wantSpot(t, "a path's last one", path[deep-1], complex(float64(deep), 0))
			wantInTree(t, append(path, beside...), deep)
		}
	}
}

func wantInTree(t *testing.T, all []complex128, deep int) {
	t.Helper()
	for _, s := range all {
		if !spot.Right(s, deep) {
			t.Fatalf("%v is not right in a tree so deep as %d", s, deep)
		}
	}
}

// P13.1 (P3): leaves that are none, that are in a deeper tree alone, and trees that are none.
func TestPathsOfNoLeaf(t *testing.T) {
	for deep := range maxDeep + 1 {
		many := spanOf(deep, 0).many
		for _, leaf := range append(noLeaves(), many, many+1, 2*many-1, 2*many, -many, many+allLeaves) {
			wantSpots(t, "Path", spot.Path(leaf, deep), nil)
			wantSpots(t, "Beside", spot.Beside(leaf, deep), nil)
		}
		for _, leaf := range someLeaves() {
			if leaf >= many {
				wantSpots(t, "Path", spot.Path(leaf, deep), nil)
				wantSpots(t, "Beside", spot.Beside(leaf, deep), nil)
			}
		}
	}
	for _, deep := range noDeeps() {
		for _, leaf := range append(noLeaves(), someLeaves()...) {
			wantSpots(t, "Path", spot.Path(leaf, deep), nil)
			wantSpots(t, "Beside", spot.Beside(leaf, deep), nil)
		}
	}
}

// wantBelowOne ends a test if each other leaf of a tree is not below just one spot of those beside a leaf's path, or the leaf itself is below one.
func wantBelowOne(t *testing.T, leaf, deep int) {
	t.Helper()
	beside := spot.Beside(leaf, deep)
	for other := range spanOf(deep, 0).many {
		over := 0
		for _, s := range beside {
			if spot.Over(s, other) {
				over++
			}
		}
		if wanted := min(1, abs(other-leaf)); over != wanted {
			t.Fatalf("the leaf %d is below %d of those beside %d, in a tree so deep as %d", other, over, leaf, deep)
		}
	}
}

func abs(n int) int { return max(n, -n) }

// P13.4: of each leaf of trees that are not deep, and of some of the deeper ones.
func TestEachOtherLeafIsBelowOne(t *testing.T) {
	for deep := range 8 {
		for leaf := range spanOf(deep, 0).many {
			wantBelowOne(t, leaf, deep)
		}
	}
	for deep := 8; deep <= maxDeep; deep++ {
		many := spanOf(deep, 0).many
		for _, leaf := range []int{0, 1, many/2 - 1, many / 2, many * 2 / 3, many - 2, many - 1} {
			wantBelowOne(t, leaf, deep)
		}
	}
}

// P13.4: the leaves below those beside a path are all but one: told by how many each level has.
func TestBesideHasAllLeavesButOne(t *testing.T) {
	for deep := range maxDeep + 1 {
		for _, leaf := range someLeaves() {
			if leaf >= spanOf(deep, 0).many {
				continue
			}
			have := 1
			for _, s := range spot.Beside(leaf, deep) {
				have += spanOf(int(real(s)), 0).many
			}
			want(t, "leaves below those beside, and the leaf", have, spanOf(deep, 0).many)
		}
	}
}

// P3: what comes out is new memory, its spare room too; to change it changes no later answer, nor one that was there.
func TestListsThatComeOut(t *testing.T) {
	calls := []func(leaf, deep int) []complex128{spot.Path, spot.Beside}
	for _, call := range calls {
		for deep := range maxDeep + 1 {
			for _, leaf := range []int{0, spanOf(deep, 0).many - 1, spanOf(deep, 0).many} {
				first, again := call(leaf, deep), call(leaf, deep)
				kept := slices.Clone(again)
				wantSpots(t, "asked anew", first, kept)
				spoil(first)
				for _, other := range calls {
					spoil(other(leaf, deep))
				}
				wantSpots(t, "behind a change of another", again, kept)
				wantSpots(t, "asked once more", call(leaf, deep), kept)
			}
		}
	}
}

func spoil(l []complex128) {
	l = l[:cap(l)]
	for i := range l {
		l[i] = -7 - 7i
	}
}
