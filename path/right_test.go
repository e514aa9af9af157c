package path_test

import (
	"crypto/sha256"
	"slices"
	"testing"

	"sodality/api"
	"sodality/path"
	"sodality/rtree"
	"sodality/trial"
)

// wantToldRight ends a test if Right of a leaf is not as in the other way.
func wantToldRight(t *testing.T, what string, tree api.Tree, leaf int) {
	t.Helper()
	wantRight(t, what, tree, leaf, plainIsRight(tree, leaf))
}

// P15.1 (U4): told by hand: a leaf beside whose path nothing is has nothing above it.
func TestRightByHand(t *testing.T) {
	for _, deep := range trial.Deeps() {
		alone := trial.TreeOf(deep, 0)
		wantRight(t, "alone, with nothing above", alone, 0, true)
		alone.Nodes[0].Above = make([]byte, 32)
		wantRight(t, "alone, with something above", alone, 0, false)
	}
	two := trial.TreeOf(1, 0, 1)
	two.Nodes[1] = trial.NodeOf(0)
	sum := plainAbove(plainWay(two, 0)[0], two.Nodes[1], [][]byte{nil, nil, rtree.Sum(two, 1i)})
	wantRight(t, "two, with nothing above", two, 0, false)
	two.Nodes[0].Above = sum
	wantRight(t, "two, with the sum above", two, 0, true)
	wantRight(t, "two, of the other one", two, 1, false)
	two.Nodes[1].Above = make([]byte, 32)
	wantRight(t, "something above the top", two, 0, false)
}

// P15.1 (U4): a spot of the filtered path that is blank has no key in the sum, and nothing of its own is looked at.
func TestRightWithBlankSpots(t *testing.T) {
	for _, tree := range []api.Tree{trial.TreeOf(1, 0, 1), trial.FullTree(2), trial.FullTree(3), trial.TreeOf(6, 0, 9, 63)} {
		sums := trial.SumsOf(tree, sha256.Sum256)
		step := plainWay(tree, 0)[0]
		wantRight(t, "blank above, with nothing above", tree, 0, false)
		tree.Nodes[0].Above = plainAbove(step, api.Node{}, sums)
		wantRight(t, "blank above", tree, 0, true)
		tree.Nodes[step.over.Number()] = trial.NodeOf(1)
		wantRight(t, "no longer blank above", tree, 0, false)
	}
}

// P15.1 (U4): ahead of a path, and behind it, each leaf of trees of all kinds.
func TestRightBeforeAndBehind(t *testing.T) {
	right := 0
	for which, tree := range keyedTrees() {
		for _, leaf := range rtree.Leaves(tree) {
			wantToldRight(t, "ahead of it", tree, leaf)
		}
		for _, leaf := range some(rtree.Leaves(tree)) {
			u := api.Update{Ek: pairs()[which%100].ek}
			for i := range plainWay(tree, leaf) {
				u.Steps = append(u.Steps, api.Step{Ek: pairs()[i].ek})
			}
			laid := wantLaid(t, tree, leaf, u)
			for _, other := range some(rtree.Leaves(laid)) {
				wantToldRight(t, "behind it", laid, other)
				if other != leaf && path.Right(laid, other) {
					right++
				}
			}
		}
	}
	trial.WantNumber(t, "how often it is right of another one", right, 0)
}

// laidTrees have a path of the leaf that is told, of which the filtered one is none, some and all.
func laidTrees(t *testing.T) map[int]api.Tree {
	out := map[int]api.Tree{}
	for leaf, tree := range map[int]api.Tree{0: rich(), 3: keyed(trial.BaseTree()), 5: keyed(trial.TreeOf(3, 1, 5, 7)), 1: keyed(trial.TreeOf(1, 1)), 40: keyed(trial.TreeOf(6, 1, 33, 40, 41))} {
		out[leaf] = wantMade(t, making{tree, leaf, nil, trial.Ordinary(32, leaf), nil}).tree
	}
	return out
}

// P15.1 (U4): a single Above, of the leaf or of a spot of its path, that is another one, is not there, or stands where nothing should.
func TestOneAboveThatIsWrong(t *testing.T) {
	for leaf, tree := range laidTrees(t) {
		numbers := []int{2 * leaf}
		for _, s := range plainWay(tree, leaf) {
			numbers = append(numbers, s.over.Number())
		}
		for i, number := range numbers {
			was := tree.Nodes[number].Above
			others := [][]byte{make([]byte, 32), trial.Ordinary(32, number), rtree.Sum(tree, trial.Whole(tree.Deep).Spot())}
			if i < len(numbers)-1 {
				others = append(others, nil, []byte{}, tree.Nodes[numbers[(i+1)%(len(numbers)-1)]].Above)
				for at := range was {
					others = append(others, trial.Changed(was, at, 1), trial.Changed(was, at, 128))
				}
			}
			trial.WantNumber(t, "its bytes", len(was), map[bool]int{true: 32}[i < len(numbers)-1])
			for _, above := range others {
				if !slices.Equal(above, was) {
					wantRight(t, "another Above", withNode(tree, number, func(n *api.Node) { n.Above = above }), leaf, false)
				}
			}
		}
	}
}

// P15.1 (U4): each thing beside the path counts, and the keys of its nodes; of the leaf nothing but its Above.
func TestWhatElseCounts(t *testing.T) {
	for leaf, tree := range laidTrees(t) {
		for number, n := range tree.Nodes {
			if n.Kind == api.Blank {
				continue
			}
			isSame := number == 2*leaf
			wantRight(t, "another Ek", withNode(tree, number, func(n *api.Node) { n.Ek[7] ^= 1 }), leaf, isSame)
			if n.Kind == api.IsLeaf {
				wantRight(t, "another Vk", withNode(tree, number, func(n *api.Node) { n.Vk[7] ^= 1 }), leaf, isSame)
				wantRight(t, "another Name", withNode(tree, number, func(n *api.Node) { n.Name[0] ^= 1 }), leaf, isSame)
			}
			if number != 2*leaf {
				other := withNode(tree, number, func(n *api.Node) { n.Above = trial.Ordinary(32, 99) })
				wantRight(t, "another Above", other, leaf, false)
			}
		}
	}
}

// P15.1 (U4): whoever is Unmerged in a node of the path, whatever stands at a spot beside which nothing is, and whatever is wrong with another leaf's path, it is right.
func TestWhatDoesNotCount(t *testing.T) {
	tree := keyed(trial.TreeOf(3, 1, 5, 7))
	tree = wantMade(t, making{tree, 5, nil, make([]byte, 32), nil}).tree
	wantRight(t, "as it is", tree, 5, true)
	wantRight(t, "a leaf that does not know the top", withNode(tree, 7, func(n *api.Node) { n.Unmerged = []int{1, 7} }), 5, true)
	wantRight(t, "a node beside which nothing is", withNode(tree, 9, func(n *api.Node) { *n = trial.NodeOf(1) }), 5, true)
	wantRight(t, "a leaf that was not beside it", withNode(tree, 8, func(n *api.Node) { *n = trial.LeafOf(4) }), 5, false)
	wantRight(t, "a spot of the path that is blank", withNode(tree, 11, func(n *api.Node) { *n = api.Node{} }), 5, false)
	added, i, err := rtree.Add(tree, trial.LeafOf(8))
	trial.WantErr(t, "rtree.Add", err, api.OK)
	trial.WantNumber(t, "the leaf that is added", i, 0)
	wantRight(t, "a leaf that is added", added, 5, false)
}

// P15.1 (U4): whatever is changed in a tree, Right is as in the other way.
func TestRightOfWhatever(t *testing.T) {
	right := map[bool]int{}
	for which := range 600 {
		r := trial.Ordinary(8, which)
		leaf := int(r[0]) % 8
		u := api.Update{Ek: pairs()[r[1]%100].ek}
		tree := trial.CopiedTree(trial.MixedTree(3, which%40))
		tree.Nodes[2*leaf] = trial.LeafOf(leaf)
		for i := range plainWay(tree, leaf) {
			u.Steps = append(u.Steps, api.Step{Ek: pairs()[int(r[1])%100+i].ek})
		}
		laid, err := path.Lay(tree, leaf, u)
		trial.WantErr(t, "Lay", err, api.OK)
		n := &laid.Nodes[r[2]%15]
		switch {
		case n.Kind == api.Blank:
		case r[3]%3 == 0:
			n.Above = [][]byte{nil, trial.Ordinary(32, which)}[r[4]%2]
		case r[3]%3 == 1:
			n.Ek = pairs()[0].ek
		case n.Kind == api.IsNode:
			*n = api.Node{}
		}
		right[plainIsRight(laid, leaf)]++
		wantToldRight(t, "whatever is changed", laid, leaf)
	}
	if right[true] < 50 || right[false] < 50 {
		t.Errorf("right and not: %v", right)
	}
}
