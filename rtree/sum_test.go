package rtree_test

import (
	"bytes"
	"encoding/hex"
	"testing"

	"sodality/api"
	"sodality/rtree"
	"sodality/trial"
)

func byHex(t *testing.T, s string) []byte {
	t.Helper()
	b, err := hex.DecodeString(s)
	if err != nil {
		t.Fatal(err)
	}
	return b
}

// P14.1 (Z5): what was told by other means, written out.
func TestSumsByHand(t *testing.T) {
	for _, x := range []struct {
		tree api.Tree
		s    complex128
		want string
	}{
		{trial.BlankTree(0), 0, "837885c8f8091aeaeb9ec3c3f85a6ff470a415e610b8ba3e49f9b33c9cf9d619"},
		{trial.TreeOf(0, 0), 0, "1a47c7f306adb5bf7b4e588158a4904834aecc8599dc5c29a6d92d96a4d35770"},
		{trial.BlankTree(1), 1, "8d45bc25a6a10199eb6214abc90e695455278a0eb54246ee7ae113cf6a953c56"},
		{trial.BlankTree(6), 6, "ffb5979696df39084bc4d0c348974f213fa306cc41753560294a3142efc3f767"},
		{trial.FullTree(6), 6, "2c3b04a7bdc6091384c6c7143210664e57f1132b7b9ca6ca157e6c3fb14188f3"},
		{trial.BaseTree(), 0, "1a47c7f306adb5bf7b4e588158a4904834aecc8599dc5c29a6d92d96a4d35770"},
		{trial.BaseTree(), 1i, "b5a7464cc2a0153a704d11a44fcbaf6efb8088d7eeeaf85aeca8f6507f224ed0"},
		{trial.BaseTree(), 2i, "837885c8f8091aeaeb9ec3c3f85a6ff470a415e610b8ba3e49f9b33c9cf9d619"},
		{trial.BaseTree(), 3i, "3271c6e27539e290b2878bb7b2f5774e684c328fef9c5a2a0d75fb4cda486df4"},
		{trial.BaseTree(), 1, "1ac4ddcb2730b45cd7763b869d4bbdddca5915b147697794642f7f68c6dcf011"},
		{trial.BaseTree(), 1 + 1i, "61a2322b7260492ab67d8da1debbe91c420fc04ecae815d46b35ad7d6165ec5b"},
		{trial.BaseTree(), 2, "da9bd5dfea38afe83b587496ea39c8ed251e07c1ff3d8ad5450a39cec41ba78a"},
	} {
		trial.WantBytes(t, "Sum", rtree.Sum(x.tree, x.s), byHex(t, x.want))
	}
}

// oneChanged are base with one thing changed in the node of each number, so that it is still right.
func oneChanged() map[int][]api.Tree {
	out := map[int][]api.Tree{}
	add := func(number int, change func(n *api.Node)) {
		tree := trial.CopiedTree(trial.BaseTree())
		change(&tree.Nodes[number])
		out[number] = append(out[number], tree)
	}
	for number, n := range trial.BaseTree().Nodes {
		if n.Kind == api.Blank {
			continue
		}
		for _, at := range []int{0, 1, ekBytes / 2, ekBytes - 1} {
			add(number, func(n *api.Node) { n.Ek[at] ^= 16 })
		}
		add(number, func(n *api.Node) { n.Above = trial.Filled(32, 99) })
	}
	for _, number := range []int{0, 2, 6} {
		add(number, func(n *api.Node) { n.Vk[vkBytes-1] ^= 1 })
		add(number, func(n *api.Node) { n.Name[0] ^= 1 })
		add(number, func(n *api.Node) { n.Name = trial.Joined(n.Name, []byte{0}) })
	}
	for _, some := range [][]int{nil, {0}, {3}, {0, 1}, {0, 1, 3}} {
		add(3, func(n *api.Node) { n.Unmerged = some })
	}
	add(1, func(n *api.Node) { *n = api.Node{} })
	add(4, func(n *api.Node) { *n = trial.LeafOf(4) })
	add(5, func(n *api.Node) { *n = trial.NodeOf(4) })
	return out
}

// P14.1 (Z5): each thing of a node counts in its sum, and in those of the nodes above it, and in no other.
func TestEachThingCounts(t *testing.T) {
	first := trial.BaseTree()
	for number, all := range oneChanged() {
		for _, tree := range all {
			wantTold(t, tree)
			for _, p := range trial.PartsOf(2) {
				isSame := bytes.Equal(rtree.Sum(tree, p.Spot()), rtree.Sum(first, p.Spot()))
				if hasNumber := number >= 2*p.From && number <= 2*(p.From+p.Many-1); isSame == hasNumber {
					t.Fatalf("a change in the node %d: the sum of %v is the same: %v", number, p.Spot(), isSame)
				}
			}
		}
	}
}

// P14.1 (Z5): a half has the same sum as it has as a tree of its own, and as the left half of a deeper one.
func TestSumsOfHalves(t *testing.T) {
	for _, deep := range []int{1, 2, 3, maxTree} {
		tree := trial.MixedTree(deep, 55)
		half := api.Tree{Deep: deep - 1, Nodes: tree.Nodes[:trial.ManyOf(deep)-1]}
		if rtree.Right(half) {
			top := complex(float64(deep-1), 0)
			trial.WantBytes(t, "the left half's sum", rtree.Sum(half, top), rtree.Sum(tree, top))
		}
	}
	deeper, _ := wantAdded(t, trial.FullTree(3), trial.LeafOf(9))
	trial.WantBytes(t, "of the left half", rtree.Sum(deeper, 3), rtree.Sum(trial.FullTree(3), 3))
}
