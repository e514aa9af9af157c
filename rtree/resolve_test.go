package rtree_test

import (
	"testing"

	"sodality/api"
	"sodality/rtree"
	"sodality/spot"
	"sodality/trial"
)

// wantStandsOver ends a test if what stands for a spot is not over just the leaves below it that are there, each once. A leaf's number stands for it; a node's for those below it that it knows.
func wantStandsOver(t *testing.T, tree api.Tree) {
	t.Helper()
	for _, p := range trial.PartsOf(tree.Deep) {
		over := make([]int, trial.ManyOf(tree.Deep))
		for _, number := range rtree.Resolve(tree, p.Spot()) {
			for _, i := range overOf(tree, number) {
				over[i]++
			}
		}
		want := make([]int, trial.ManyOf(tree.Deep))
		for _, i := range p.There(tree) {
			want[i] = 1
		}
		trial.WantNumbers(t, "how often what Resolve says is over each leaf", over, want)
	}
}

func overOf(tree api.Tree, number int) []int {
	if number%2 == 0 {
		return []int{number / 2}
	}
	unmerged := make([]int, trial.ManyOf(tree.Deep))
	for _, i := range tree.Nodes[number].Unmerged {
		unmerged[i] = 1
	}
	var out []int
	for _, i := range rtree.Leaves(tree) {
		if spot.Over(spot.At(number), i) && unmerged[i] == 0 {
			out = append(out, i)
		}
	}
	return out
}

// The chapter's examples.
func TestExamples(t *testing.T) {
	tree := trial.TreeOf(1, 0, 1)
	trial.WantNumbers(t, "Resolve of a blank top", rtree.Resolve(tree, 1), []int{0, 2})
	tree.Nodes[1] = trial.NodeOf(1, 1)
	trial.WantNumbers(t, "Resolve of a top that the second leaf does not know", rtree.Resolve(tree, 1), []int{1, 2})
}

// P14.1 (Z2): told by hand.
func TestResolveByHand(t *testing.T) {
	deep := trial.TreeOf(3, 0, 1, 3, 4, 5, 6)
	deep.Nodes[5], deep.Nodes[11], deep.Nodes[13] = trial.NodeOf(5), trial.NodeOf(11, 4, 6), trial.NodeOf(13)
	for _, x := range []struct {
		tree api.Tree
		s    complex128
		want []int
	}{
		{trial.BlankTree(0), 0, nil}, {trial.TreeOf(0, 0), 0, []int{0}},
		{trial.BaseTree(), 0, []int{0}}, {trial.BaseTree(), 1i, []int{2}}, {trial.BaseTree(), 2i, nil}, {trial.BaseTree(), 3i, []int{6}},
		{trial.BaseTree(), 1, []int{1, 2}}, {trial.BaseTree(), 1 + 1i, []int{6}}, {trial.BaseTree(), 2, []int{3, 0, 6}},
		{deep, 3, []int{0, 2, 5, 11, 8, 12}}, {deep, 2, []int{0, 2, 5}}, {deep, 2 + 1i, []int{11, 8, 12}},
		{deep, 1, []int{0, 2}}, {deep, 1 + 1i, []int{5}}, {deep, 1 + 2i, []int{8, 10}}, {deep, 1 + 3i, []int{13}}, {deep, 7i, nil}, {deep, 6i, []int{12}},
		{trial.WithKeys(trial.BlankTree(2), trial.NoneIs), 2, []int{3}}, {trial.WithKeys(trial.BlankTree(2), trial.NoneIs), 1i, nil}, {trial.BlankTree(6), 6, nil},
	} {
		trial.WantNumbers(t, "Resolve", rtree.Resolve(x.tree, x.s), x.want)
	}
}

// P14.2: trees of all kinds; of all that are not deep it is told where those are gone through.
func TestStandsOver(t *testing.T) {
	for _, tree := range trial.Trees() {
		wantStandsOver(t, tree)
	}
}

// P14.1 (Z2, Z5): what is no spot of the tree, be it one of a deeper tree or of none.
func TestNoSpotOfTheTree(t *testing.T) {
	for _, tree := range trial.Trees() {
		for _, s := range append(noSpots(), outsideOf(tree.Deep)...) {
			trial.WantNumbers(t, "Resolve of no spot", rtree.Resolve(tree, s), nil)
			if got := rtree.Sum(tree, s); len(got) != 0 {
				t.Fatalf("Sum of %v, no spot of a tree so deep as %d: got %d bytes", s, tree.Deep, len(got))
			}
		}
	}
}

// outsideOf are spots of deeper trees alone.
func outsideOf(deep int) []complex128 {
	var out []complex128
	for _, s := range append(spotsOf(maxTree+1), 16, 65535i, 15+1i) {
		if !spot.Right(s, deep) {
			out = append(out, s)
		}
	}
	return out
}
