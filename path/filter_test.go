package path_test

import (
	"testing"

	"sodality/api"
	"sodality/path"
	"sodality/rtree"
	"sodality/trial"
)

// The chapter's examples.
func TestExamples(t *testing.T) {
	wantSpots(t, "leaf 0 alone", path.Filter(trial.TreeOf(0, 0), 0), nil)
	wantSpots(t, "leaf 0 alone, in a deeper tree", path.Filter(trial.TreeOf(2, 0), 0), nil)
	wantSpots(t, "leaves 0 and 1", path.Filter(trial.TreeOf(1, 0, 1), 0), []complex128{1})
	wantSpots(t, "leaves 0 and 1, of the other one", path.Filter(trial.TreeOf(1, 0, 1), 1), []complex128{1})
}

// P15.1 (U1): told by hand: none, some and all of the path.
func TestFilterByHand(t *testing.T) {
	gaps := trial.TreeOf(3, 0, 3, 4, 7)
	noded := trial.TreeOf(3, 0)
	noded.Nodes[11] = trial.NodeOf(11)
	half := trial.TreeOf(2, 0)
	half.Nodes[1] = trial.NodeOf(1)
	for _, x := range []struct {
		name string
		tree api.Tree
		leaf int
		want []complex128
	}{
		{"with a blank beside", trial.BaseTree(), 3, []complex128{2}},
		{"with all there", trial.BaseTree(), 0, []complex128{1, 2}},
		{"with all there", trial.BaseTree(), 1, []complex128{1, 2}},
		{"with gaps", gaps, 0, []complex128{2, 3}},
		{"with gaps", gaps, 3, []complex128{2, 3}},
		{"with gaps", gaps, 4, []complex128{2 + 1i, 3}},
		{"with gaps", gaps, 7, []complex128{2 + 1i, 3}},
		{"with two beside one another", trial.TreeOf(3, 6, 7), 6, []complex128{1 + 3i}},
		{"with two far away", trial.TreeOf(3, 0, 7), 7, []complex128{3}},
		{"with a node over nobody", noded, 0, []complex128{3}},
		{"with a node above it alone", half, 0, nil},
		{"of the deepest tree", trial.TreeOf(6, 5, 4, 8, 63), 5, []complex128{1 + 2i, 4, 6}},
		{"of the deepest tree, full", trial.FullTree(6), 37, []complex128{1 + 18i, 2 + 9i, 3 + 4i, 4 + 2i, 5 + 1i, 6}},
	} {
		wantSpots(t, x.name, path.Filter(x.tree, x.leaf), x.want)
	}
}

// wantFiltered holds the filtered path of each leaf that is there against the other way; it answers how often it was none, some and all of the path.
func wantFiltered(t *testing.T, tree api.Tree) (none, some, all int) {
	t.Helper()
	for _, leaf := range rtree.Leaves(tree) {
		var want []complex128
		for _, s := range plainWay(tree, leaf) {
			want = append(want, s.over.Spot())
		}
		wantSpots(t, "the filtered path", path.Filter(tree, leaf), want)
		switch len(want) {
		case 0:
			none++
		case tree.Deep:
			all++
		default:
			some++
		}
	}
	return none, some, all
}

// P15.1 (U1): trees of all kinds, and all that are not deep.
func TestFilter(t *testing.T) {
	trees := trial.Trees()
	for deep := range 3 {
		trees = append(trees, trial.AllTrees(deep)...)
	}
	none, some, all := 0, 0, 0
	for _, tree := range trees {
		a, b, c := wantFiltered(t, tree)
		none, some, all = none+a, some+b, all+c
	}
	if none < 20 || some < 20 || all < 20 {
		t.Errorf("none, some and all of the path: %d, %d and %d times", none, some, all)
	}
}
