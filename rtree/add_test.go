package rtree_test

import (
	"slices"
	"testing"

	"sodality/api"
	"sodality/rtree"
	"sodality/trial"
)

// P14.1 (Z3): told by hand: the first blank leaf, wherever it is, and who does not know it.
func TestAddByHand(t *testing.T) {
	leaf := trial.LeafOf(77)
	tree, i := wantAdded(t, trial.BaseTree(), leaf)
	trial.WantNumber(t, "the first blank leaf", i, 2)
	trial.WantNode(t, "the leaf", tree.Nodes[4], leaf)
	trial.WantNumbers(t, "Unmerged at the top, in the midst of others", tree.Nodes[3].Unmerged, []int{0, 2, 3})
	trial.WantNumbers(t, "Unmerged in a node that is not above it", tree.Nodes[1].Unmerged, []int{1})
	trial.WantNumber(t, "a blank above it", tree.Nodes[5].Kind, api.Blank)

	tree, i = wantAdded(t, tree, leaf)
	trial.WantNumber(t, "the first of the new ones", i, 4)
	trial.WantNumber(t, "one deeper", tree.Deep, 3)
	trial.WantNode(t, "the leaf", tree.Nodes[8], leaf)
	trial.WantNumbers(t, "Unmerged at what was the top", tree.Nodes[3].Unmerged, []int{0, 2, 3})
	trial.WantNumbers(t, "what stands for all", rtree.Resolve(tree, 3), []int{3, 0, 4, 6, 8})
	trial.WantNumbers(t, "Leaves", rtree.Leaves(tree), []int{0, 1, 2, 3, 4})
}

// P14.1 (Z3), P14.3: one leaf blank at each place of full trees, with nodes that are blank, that know all, and that know none; and several.
func TestAddAtEachPlace(t *testing.T) {
	for _, deep := range trial.Deeps() {
		for i := range trial.ManyOf(deep) {
			for _, full := range []api.Tree{trial.FullTree(deep), trial.WithKeys(trial.FullTree(deep), trial.NoneIs), trial.WithKeys(trial.FullTree(deep), trial.AllAre)} {
				tree := withoutLeaf(full, i)
				_, at := wantAdded(t, tree, trial.LeafOf(200))
				trial.WantNumber(t, "the blank leaf", at, i)
				for other := i + 1; other < trial.ManyOf(deep); other += 5 {
					_, at := wantAdded(t, withoutLeaf(tree, other), trial.LeafOf(201))
					trial.WantNumber(t, "the first blank leaf", at, i)
				}
			}
		}
	}
}

// withoutLeaf has one leaf blank, Unmerged nowhere, and the nodes above it as they were.
func withoutLeaf(t api.Tree, leaf int) api.Tree {
	out := trial.CopiedTree(t)
	out.Nodes[2*leaf] = api.Node{}
	for i := range out.Nodes {
		out.Nodes[i].Unmerged = slices.DeleteFunc(out.Nodes[i].Unmerged, func(other int) bool { return other == leaf })
	}
	return out
}

// P14.1 (Z3): full trees become deeper, but for the deepest.
func TestAddToFullTrees(t *testing.T) {
	for deep := range maxTree + 1 {
		for _, tree := range []api.Tree{trial.FullTree(deep), trial.WithKeys(trial.FullTree(deep), trial.NoneIs), trial.WithKeys(trial.FullTree(deep), trial.AllAre)} {
			if deep == maxTree {
				wantNotAdded(t, "the deepest tree, full", tree, trial.LeafOf(1), api.ErrTooMany)
				continue
			}
			out, i := wantAdded(t, tree, trial.LeafOf(1))
			trial.WantNumber(t, "the leaf", i, trial.ManyOf(deep))
			trial.WantNumber(t, "Deep", out.Deep, deep+1)
			for number := len(tree.Nodes); number < len(out.Nodes); number++ {
				trial.WantNumber(t, "what is new, but the leaf", out.Nodes[number].Kind, map[int]int{2 * i: api.IsLeaf}[number])
			}
		}
	}
}

// P14.1 (Z3): from nothing to as many as there may be, and not one more.
func TestAddTillItIsFull(t *testing.T) {
	tree := trial.BlankTree(0)
	for i := range 64 {
		var at int
		tree, at = wantAdded(t, tree, trial.LeafOf(i))
		trial.WantNumber(t, "the next one", at, i)
		if i%7 == 3 {
			tree = trial.WithKeys(tree, func(p trial.Part, leaf int) bool { return leaf%2 == 0 })
		}
		wantTold(t, tree)
		wantStandsOver(t, tree)
	}
	trial.WantNumber(t, "Deep", tree.Deep, maxTree)
	wantNotAdded(t, "one more", tree, trial.LeafOf(64), api.ErrTooMany)
}

// P14.1 (Z3), P2: what is no right leaf is refused by Add and Renew, in any tree that is right, a full one too.
func TestNoRightLeaf(t *testing.T) {
	wrong := []trial.Spoilt{
		trial.NodeSpoilt("a blank", 2, func(n *api.Node) { *n = api.Node{} }),
		trial.NodeSpoilt("a node", 2, func(n *api.Node) { *n = trial.NodeOf(1) }),
		trial.NodeSpoilt("a node with Unmerged ones", 2, func(n *api.Node) { *n = trial.NodeOf(1, 1) }),
	}
	for _, kind := range []int{-1, 3, 257, 1 << 40} {
		wrong = append(wrong, trial.NodeSpoilt("of no kind", 2, func(n *api.Node) { n.Kind = kind }))
	}
	full := trial.FullTree(maxTree)
	for _, x := range append(wrong, trial.NoLeafNodes()...) {
		leaf := x.Tree.Nodes[2]
		for _, tree := range []api.Tree{trial.BlankTree(0), trial.BaseTree(), full} {
			wantNotAdded(t, x.Name, tree, leaf, api.ErrArg)
			for _, i := range append(trial.NoLeaves(), 0, 1, 2, 3) {
				wantNotRenewed(t, x.Name, tree, i, leaf, api.ErrArg)
			}
		}
	}
}

// P14.1 (Z3): leaves of all that may be are taken as they are.
func TestRightLeaves(t *testing.T) {
	for which := range 48 {
		for _, tree := range []api.Tree{trial.BlankTree(0), trial.BaseTree(), trial.FullTree(3)} {
			leaf := trial.LeafOf(which)
			out, i := wantAdded(t, tree, leaf)
			trial.WantNode(t, "the leaf", out.Nodes[2*i], leaf)
		}
	}
}

// wantAddedAndRemoved ends a test if the leaves behind both are not those ahead of them, or other leaves stand there.
func wantAddedAndRemoved(t *testing.T, tree api.Tree) {
	t.Helper()
	more, i := wantAdded(t, tree, trial.LeafOf(300))
	trial.WantNumbers(t, "the leaves, and the one that is added", rtree.Leaves(more), slices.Sorted(slices.Values(append(rtree.Leaves(tree), i))))
	wantStandsOver(t, more)
	back := wantRemoved(t, more, i)
	trial.WantNumbers(t, "the leaves, behind both", rtree.Leaves(back), rtree.Leaves(tree))
	for _, leaf := range rtree.Leaves(tree) {
		trial.WantNode(t, "a leaf, behind both", back.Nodes[2*leaf], tree.Nodes[2*leaf])
	}
	wantStandsOver(t, back)
}

// P14.3: trees of all kinds, and all that are not deep.
func TestAddedAndRemoved(t *testing.T) {
	all := trial.Trees()
	for deep := range 3 {
		all = append(all, trial.AllTrees(deep)...)
	}
	for _, tree := range all {
		if len(rtree.Leaves(tree)) < 64 {
			wantAddedAndRemoved(t, tree)
		} else {
			wantNotAdded(t, "full", tree, trial.LeafOf(1), api.ErrTooMany)
		}
	}
}

// P14.3: whatever is done, one behind the other: no tree that is made is not right, and the leaves are those that should be there.
func TestWhateverIsDone(t *testing.T) {
	for which := range 6 {
		tree, there := trial.BlankTree(0), map[int]api.Node{}
		for step, b := range trial.Ordinary(150, 900+which) {
			tree = doOne(t, tree, there, step, int(b))
			if b%5 == 0 {
				tree = trial.WithKeys(trial.CopiedTree(tree), func(p trial.Part, leaf int) bool { return (leaf+step)%3 == 0 })
			}
			wantRight(t, "what is made", tree, true)
			trial.WantNumber(t, "how many leaves are there", len(rtree.Leaves(tree)), len(there))
			for i, leaf := range there {
				trial.WantNode(t, "a leaf that is there", tree.Nodes[2*i], leaf)
			}
		}
		wantTold(t, tree)
		wantStandsOver(t, tree)
	}
}

// doOne adds more often than it removes, so that the tree grows, and marks who is there.
func doOne(t *testing.T, tree api.Tree, there map[int]api.Node, step, b int) api.Tree {
	t.Helper()
	leaves, leaf := rtree.Leaves(tree), trial.LeafOf(step)
	if len(leaves) == 0 || b%7 < 3 {
		out, i := wantAdded(t, tree, leaf)
		there[i] = leaf
		return out
	}
	i := leaves[b/7%len(leaves)]
	if b%7 < 5 {
		delete(there, i)
		return wantRemoved(t, tree, i)
	}
	there[i] = leaf
	return wantRenewed(t, tree, i, leaf)
}
