package trial_test

import (
	"crypto/sha256"
	"testing"

	"sodality/api"
	"sodality/rtree"
	"sodality/trial"
)

// What is told here by parts is what spots and numbers say of a tree of depth 3.
func TestParts(t *testing.T) {
	p := trial.Part{From: 4, Many: 2}
	trial.WantNumber(t, "its number", p.Number(), 9)
	if p.Spot() != 1+2i {
		t.Errorf("its spot: %v", p.Spot())
	}
	left, right := trial.Part{From: 4, Many: 4}.Halves()
	if left != p || right != (trial.Part{From: 6, Many: 2}) {
		t.Errorf("halves: %v and %v", left, right)
	}
	for leaf, want := range []bool{false, false, false, false, true, true, false, false} {
		if p.Has(leaf) != want || p.IsOver(trial.Part{From: leaf, Many: 1}) != want {
			t.Errorf("is it over the leaf %d?", leaf)
		}
	}
	if !trial.Whole(3).IsOver(p) || p.IsOver(trial.Whole(3)) || !p.IsOver(p) {
		t.Error("a part of a tree is over it, or it is not over a part")
	}
	trial.WantNumber(t, "the parts of a tree", len(trial.PartsOf(3)), 15)
	if trial.PartsOf(3)[0] != trial.Whole(3) || trial.PartsOf(3)[5] != p {
		t.Error("parts in another order")
	}
}

func TestPartsOfTrees(t *testing.T) {
	base := trial.BaseTree()
	trial.WantNumbers(t, "There", trial.Whole(2).There(base), []int{0, 1, 3})
	trial.WantNumbers(t, "Chosen", trial.Whole(2).Chosen(base, func(_ trial.Part, leaf int) bool { return leaf > 0 }), []int{1, 3})
	trial.WantNumbers(t, "Resolve", trial.Whole(2).Resolve(base), []int{3, 0, 6})
	trial.WantNumbers(t, "Resolve of a half", trial.Part{From: 0, Many: 2}.Resolve(base), []int{1, 2})
	leaf := api.Node{Kind: 1, Ek: []byte{7, 8}, Unmerged: []int{258}}
	trial.WantBytes(t, "a node's bytes", trial.NodeBytes(leaf), []byte{1, 2, 7, 8, 0, 0, 0, 0, 1, 1, 2})
	trial.WantBytes(t, "a text's bytes", trial.TextBytes(make([]byte, 64))[:2], []byte{64, 64})
	trial.WantBytes(t, "the top's sum", trial.SumsOf(base, sha256.Sum256)[3], rtree.Sum(base, 2))
}

// Trees of all kinds are right, and those that are wrong are not.
func TestGrownTrees(t *testing.T) {
	kinds := map[int]int{}
	for _, tree := range append(trial.Trees(), trial.AllTrees(1)...) {
		if !rtree.Right(tree) {
			t.Fatalf("one so deep as %d is not right", tree.Deep)
		}
		for _, n := range tree.Nodes {
			kinds[n.Kind]++
			kinds[10+min(len(n.Unmerged), 2)]++
		}
	}
	for _, kind := range []int{api.Blank, api.IsLeaf, api.IsNode, 10, 11, 12} {
		if kinds[kind] < 20 {
			t.Errorf("nodes of kind %d: %d alone", kind, kinds[kind])
		}
	}
	for _, x := range trial.WrongTrees() {
		if rtree.Right(x.Tree) {
			t.Errorf("%s: right", x.Name)
		}
	}
}

func TestNumbersAreToldApart(t *testing.T) {
	for _, x := range []struct {
		got, want []int
		differ    bool
	}{{nil, []int{}, false}, {[]int{1, 2}, []int{1, 2}, false}, {[]int{1, 2}, []int{2, 1}, true}, {[]int{1}, nil, true}, {[]int{1}, []int{1, 1}, true}} {
		if found(func(h trial.T) { trial.WantNumbers(h, "", x.got, x.want) }) != x.differ {
			t.Errorf("%d and %d", x.got, x.want)
		}
	}
	if !found(func(h trial.T) { trial.WantNumber(h, "", 1, 2) }) || found(func(h trial.T) { trial.WantNumber(h, "", 2, 2) }) {
		t.Error("numbers are not told apart")
	}
}
