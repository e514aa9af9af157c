package rtree_test

import (
	"testing"

	"sodality/api"
	"sodality/rtree"
	"sodality/trial"
)

func TestBounds(t *testing.T) {
	trial.WantNumber(t, "how deep a group's tree may be", api.MaxTree, maxTree)
	trial.WantNumber(t, "the bytes of a key to close with", api.KemEk, ekBytes)
	trial.WantNumber(t, "the bytes of a key to verify with", api.DsaPk, vkBytes)
	trial.WantNumber(t, "the bytes of a name", api.MaxName, maxName)
}

// P14.1: none of them is right, and no call answers anything of them but ErrTree.
func TestTreesThatAreNotRight(t *testing.T) {
	wantRight(t, "what they are made of", trial.BaseTree(), true)
	for _, x := range trial.WrongTrees() {
		wantRight(t, x.Name, x.Tree, plainRight(x.Tree))
		wantNoTree(t, x.Name, x.Tree)
	}
}

// P14.1 (Z1): one node alone may make a tree wrong, wherever it is.
func TestOneNodeThatIsNotRight(t *testing.T) {
	for _, deep := range trial.Deeps() {
		for number := range 2*trial.ManyOf(deep) - 1 {
			for _, wrong := range []api.Node{{Kind: 3}, {Ek: []byte{0}}, {Kind: api.IsLeaf}, {Kind: api.IsNode}, trial.LeafOf(1), trial.NodeOf(1), trial.NodeOf(1, 64), trial.NodeOf(1, -1)} {
				tree := trial.WithKeys(trial.FullTree(deep), trial.NoneIs)
				tree.Nodes[number] = wrong
				wantRight(t, "one node alone", tree, plainRight(tree))
			}
		}
	}
}

// P14.1 (Z1): each leaf, Unmerged at each node: only where it is below it, and there.
func TestOneUnmerged(t *testing.T) {
	for _, deep := range trial.Deeps() {
		for _, p := range trial.PartsOf(deep)[:trial.ManyOf(deep)-1] {
			for i := range trial.ManyOf(deep) {
				tree := trial.FullTree(deep)
				tree.Nodes[p.Number()] = trial.NodeOf(1, i)
				wantRight(t, "one Unmerged leaf", tree, p.Has(i))
				tree.Nodes[2*i] = api.Node{}
				wantRight(t, "one that is blank", tree, false)
			}
		}
	}
}

// P14.1 (Z1): trees of all kinds are right, and told as they should be.
func TestRightTrees(t *testing.T) {
	for _, tree := range trial.Trees() {
		wantTold(t, tree)
	}
}

// P14.1, P14.2, P14.4: all trees that are not deep.
func TestAllTreesThatAreNotDeep(t *testing.T) {
	many := 0
	for deep := range 3 {
		all := trial.AllTrees(deep)
		many += len(all)
		for _, tree := range all {
			wantTold(t, tree)
			wantStandsOver(t, tree)
		}
	}
	trial.WantNumber(t, "how many there are", many, 2+13+1325)
}

// P14.1 (Z1): the edges of what is right.
func TestEdgesOfRight(t *testing.T) {
	for _, name := range []int{1, 2, maxName - 1, maxName} {
		for _, above := range []int{0, 32} {
			tree := trial.BaseTree()
			tree.Nodes[2].Name, tree.Nodes[2].Above, tree.Nodes[3].Above = make([]byte, name), make([]byte, above), make([]byte, above)
			wantTold(t, tree)
		}
	}
	empty := trial.BaseTree()
	for i := range empty.Nodes {
		n := &empty.Nodes[i]
		for _, s := range []*[]byte{&n.Ek, &n.Vk, &n.Name, &n.Above} {
			*s = append([]byte{}, *s...)
		}
		n.Unmerged = append([]int{}, n.Unmerged...)
	}
	wantTold(t, empty)
	for _, some := range [][]int{nil, {0}, {1}, {3}, {0, 1}, {0, 3}, {1, 3}, {0, 1, 3}} {
		tree := trial.BaseTree()
		tree.Nodes[3].Unmerged = some
		wantTold(t, tree)
	}
}

// P14.1 (Z1): told by hand.
func TestLeavesByHand(t *testing.T) {
	for _, x := range []struct {
		tree api.Tree
		want []int
	}{
		{trial.BlankTree(0), nil}, {trial.TreeOf(0, 0), []int{0}}, {trial.BlankTree(1), nil}, {trial.TreeOf(1, 1), []int{1}}, {trial.TreeOf(1, 0, 1), []int{0, 1}},
		{trial.BaseTree(), []int{0, 1, 3}}, {trial.BlankTree(6), nil}, {trial.TreeOf(6, 0, 7, 62, 63), []int{0, 7, 62, 63}}, {trial.WithKeys(trial.BlankTree(3), trial.NoneIs), nil},
	} {
		trial.WantNumbers(t, "Leaves", rtree.Leaves(x.tree), x.want)
	}
}

// P14.1 (Z1): whatever the lists have in length, it is as in the other way.
func TestWhateverNodes(t *testing.T) {
	right := 0
	for which := range 20000 {
		b := trial.Ordinary(16, which)
		tree := trial.MixedTree(int(b[0])%3, which%16)
		n := &tree.Nodes[int(b[1])%len(tree.Nodes)]
		switch b[2] % 8 {
		case 0:
			n.Kind = int(b[3]) % 4
		case 1:
			n.Ek = make([]byte, ekBytes+int(b[3])%3-1)
		case 2:
			n.Vk = make([]byte, vkBytes+int(b[3])%3-1)
		case 3:
			n.Name = make([]byte, int(b[3])%19)
		case 4:
			n.Above = make([]byte, 31+int(b[3])%3)
		case 5:
			n.Unmerged = []int{int(b[3]) % 4, int(b[4]) % 4}
		case 6:
			n.Unmerged = []int{int(b[3]) % 4}
		case 7:
			tree.Deep += int(b[3])%5/4 - int(b[4])%5/4
		}
		want := plainRight(tree)
		wantRight(t, "whatever it has", tree, want)
		if want {
			right++
		}
	}
	if right < 2000 || right > 18000 {
		t.Errorf("%d of 20000 were right", right)
	}
}
