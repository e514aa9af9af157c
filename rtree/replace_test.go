package rtree_test

import (
	"testing"

	"sodality/api"
	"sodality/rtree"
	"sodality/trial"
)

// P14.1 (Z4): each leaf of trees of all kinds is renewed and removed, if it is there, and refused, if it is not.
func TestEachLeaf(t *testing.T) {
	for _, tree := range trial.Trees() {
		for i := range trial.ManyOf(tree.Deep) {
			if tree.Nodes[2*i].Kind == api.IsLeaf {
				wantStandsOver(t, wantRenewed(t, tree, i, trial.LeafOf(i+100)))
				wantStandsOver(t, wantRemoved(t, tree, i))
				continue
			}
			wantNotRenewed(t, "a blank leaf", tree, i, trial.LeafOf(1), api.ErrLeaf)
			wantNotRemoved(t, "a blank leaf", tree, i, api.ErrLeaf)
		}
	}
}

// P14.1 (Z4): leaves that are in no tree, and such as are in a deeper one alone.
func TestNoLeafOfTheTree(t *testing.T) {
	for _, tree := range trial.Trees() {
		many := trial.ManyOf(tree.Deep)
		for _, i := range append(trial.NoLeaves(), many, many+1, 2*many-2, 2*many-1, 2*many, -many) {
			if i >= many || i < 0 {
				wantNotRenewed(t, "no leaf", tree, i, trial.LeafOf(1), api.ErrLeaf)
				wantNotRemoved(t, "no leaf", tree, i, api.ErrLeaf)
			}
		}
	}
}

// P14.1 (Z4), P14.3: all trees that are not deep.
func TestReplacedInAllTreesThatAreNotDeep(t *testing.T) {
	for deep := range 3 {
		for _, tree := range trial.AllTrees(deep) {
			for _, i := range rtree.Leaves(tree) {
				wantStandsOver(t, wantRenewed(t, tree, i, trial.LeafOf(100)))
				wantStandsOver(t, wantRemoved(t, tree, i))
			}
		}
	}
}

// P14.1 (Z4): told by hand: above it all is blank, and beside that all as it was.
func TestRenewByHand(t *testing.T) {
	tree := trial.WithKeys(trial.FullTree(2), trial.AllAre)
	out := wantRenewed(t, tree, 2, trial.LeafOf(50))
	trial.WantNode(t, "the leaf", out.Nodes[4], trial.LeafOf(50))
	for number, kind := range []int{1, 2, 1, 0, 1, 0, 1} {
		trial.WantNumber(t, "a node's Kind", out.Nodes[number].Kind, kind)
	}
	trial.WantNumbers(t, "Unmerged beside", out.Nodes[1].Unmerged, []int{0, 1})
	trial.WantNumbers(t, "what stands for all", rtree.Resolve(out, 2), []int{1, 0, 2, 4, 6})
	same := wantRenewed(t, trial.FullTree(2), 3, trial.LeafOf(3))
	trial.WantTree(t, "renewed with what it was, where all above is blank", same, trial.FullTree(2))
}

// P14.1 (Z4): told by hand: who is Unmerged in nodes, and is removed, is Unmerged nowhere.
func TestRemoveOfWhoIsUnmerged(t *testing.T) {
	tree := trial.WithKeys(trial.FullTree(2), trial.AllAre)
	out := wantRemoved(t, tree, 1)
	for number, kind := range []int{1, 0, 0, 0, 1, 2, 1} {
		trial.WantNumber(t, "a node's Kind", out.Nodes[number].Kind, kind)
	}
	for number, n := range out.Nodes {
		for _, i := range n.Unmerged {
			if i == 1 {
				t.Errorf("it is Unmerged in the node %d", number)
			}
		}
	}
	trial.WantNumbers(t, "Unmerged beside", out.Nodes[5].Unmerged, []int{2, 3})
	trial.WantNumbers(t, "Leaves", rtree.Leaves(out), []int{0, 2, 3})
}

// P14.1 (Z4): the last leaf of the right half goes, and the tree is cut: once, more than once, and till nothing is above its leaf.
func TestCut(t *testing.T) {
	for _, x := range []struct {
		deep   int
		leaves []int
		remove int
		want   int
	}{
		{0, []int{0}, 0, 0}, {1, []int{0}, 0, 0}, {1, []int{1}, 1, 0}, {1, []int{0, 1}, 1, 0}, {1, []int{0, 1}, 0, 1},
		{2, []int{0, 1, 2}, 2, 1}, {2, []int{0, 2}, 2, 0}, {2, []int{1, 3}, 3, 1}, {2, []int{0, 2, 3}, 3, 2}, {2, []int{0, 3}, 0, 2}, {2, []int{3}, 3, 0},
		{3, []int{0, 1, 2, 4}, 4, 2}, {3, []int{0, 7}, 7, 0}, {3, []int{1, 7}, 7, 1}, {3, []int{3, 7}, 7, 2}, {3, []int{3, 6, 7}, 7, 3},
		{6, []int{0, 63}, 63, 0}, {6, []int{0, 63}, 0, 6}, {6, []int{1, 32}, 32, 1}, {6, []int{2, 63}, 63, 2}, {6, []int{31, 32}, 32, 5}, {6, []int{16, 60}, 60, 5}, {6, []int{15, 60}, 60, 4}, {6, []int{60}, 60, 0},
	} {
		for _, tree := range []api.Tree{trial.TreeOf(x.deep, x.leaves...), trial.WithKeys(trial.TreeOf(x.deep, x.leaves...), trial.NoneIs), trial.WithKeys(trial.TreeOf(x.deep, x.leaves...), trial.AllAre)} {
			out := wantRemoved(t, tree, x.remove)
			trial.WantNumber(t, "how deep it is then", out.Deep, x.want)
			wantTold(t, out)
		}
	}
}

// P14.1 (Z4): a tree that could be cut ahead of it is so too, but Renew cuts none.
func TestCutOfWhatWasEmpty(t *testing.T) {
	for _, deep := range []int{1, 2, 3, maxTree} {
		tree := trial.WithKeys(trial.TreeOf(deep, 0, 1), trial.NoneIs)
		trial.WantNumber(t, "how deep it is, behind Renew", wantRenewed(t, tree, 1, trial.LeafOf(2)).Deep, deep)
		trial.WantNumber(t, "how deep it is, behind Remove of the right one", wantRemoved(t, tree, 1).Deep, 0)
		trial.WantNumber(t, "how deep it is, behind Remove of the left one", wantRemoved(t, tree, 0).Deep, 1)
	}
}

// P14.1 (Z4), P14.3: all leaves go, from the last one, from the first one, and from the midst.
func TestRemoveTillNoneIsThere(t *testing.T) {
	for _, deep := range trial.Deeps() {
		for _, next := range []func(there []int) int{
			func(there []int) int { return there[len(there)-1] }, func(there []int) int { return there[0] }, func(there []int) int { return there[len(there)/2] },
		} {
			tree := trial.WithKeys(trial.FullTree(deep), trial.AllAre)
			for there := rtree.Leaves(tree); len(there) > 0; there = rtree.Leaves(tree) {
				tree = wantRemoved(t, tree, next(there))
				trial.WantNumber(t, "how many are there", len(rtree.Leaves(tree)), len(there)-1)
			}
			trial.WantTree(t, "what is left", tree, trial.BlankTree(0))
		}
	}
}

// P2: a leaf that is none is named ahead of a place that is none; both are behind a tree that is not right.
func TestSeveralErrors(t *testing.T) {
	for _, i := range append(trial.NoLeaves(), 2) {
		wantNotRenewed(t, "no right leaf, and no place", trial.BaseTree(), i, api.Node{}, api.ErrArg)
		wantNotRenewed(t, "no place", trial.BaseTree(), i, trial.LeafOf(1), api.ErrLeaf)
		wantNotRenewed(t, "all wrong", api.Tree{}, i, api.Node{}, api.ErrTree)
	}
	wantNotAdded(t, "no right leaf, and no room", trial.FullTree(maxTree), api.Node{}, api.ErrArg)
	wantNotAdded(t, "all wrong", trial.FullTree(maxTree+1), api.Node{}, api.ErrTree)
}
