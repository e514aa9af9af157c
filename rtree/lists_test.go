package rtree_test

import (
	"slices"
	"testing"

	"sodality/api"
	"sodality/rtree"
	"sodality/trial"
)

// calls are all that take a tree: what each answers is told as bytes.
func calls() map[string]func(t api.Tree, leaf api.Node) []byte {
	out := map[string]func(t api.Tree, leaf api.Node) []byte{
		"Right":  func(t api.Tree, leaf api.Node) []byte { return trial.Truth(rtree.Right(t))[0] },
		"Leaves": func(t api.Tree, leaf api.Node) []byte { return bytesOf(rtree.Leaves(t)) },
		"Put":    func(t api.Tree, leaf api.Node) []byte { b, err := rtree.Put(t); return append(b, byte(err)) },
		"Add":    func(t api.Tree, leaf api.Node) []byte { out, i, err := rtree.Add(t, leaf); return told(out, i, err) },
	}
	for _, i := range []int{-1, 0, 1, 2, 3, 62, 63} {
		out["Renew "+string(rune('a'+i))] = func(t api.Tree, leaf api.Node) []byte { r, err := rtree.Renew(t, i, leaf); return told(r, 0, err) }
		out["Remove "+string(rune('a'+i))] = func(t api.Tree, leaf api.Node) []byte { r, err := rtree.Remove(t, i); return told(r, 0, err) }
	}
	for i, s := range append(spotsOf(2), 6, 63i, 0.5) {
		out["Resolve "+string(rune('a'+i))] = func(t api.Tree, leaf api.Node) []byte { return bytesOf(rtree.Resolve(t, s)) }
		out["Sum "+string(rune('a'+i))] = func(t api.Tree, leaf api.Node) []byte { return rtree.Sum(t, s) }
	}
	return out
}

func told(t api.Tree, i int, err api.Errno) []byte { return append(plainPut(t), byte(i), byte(err)) }

func bytesOf(l []int) []byte {
	var out []byte
	for _, n := range l {
		out = append(out, byte(n), byte(n>>8))
	}
	return out
}

// lentTrees are right and wrong, small and great, with room and without.
func lentTrees() []api.Tree {
	return []api.Tree{
		{}, trial.BlankTree(0), trial.BaseTree(), trial.WithKeys(trial.FullTree(2), trial.AllAre), trial.WithKeys(trial.TreeOf(2, 0, 2), trial.AllAre), trial.WithKeys(trial.TreeOf(maxTree, 0, 2, 63), trial.AllAre), trial.MixedTree(3, 5), trial.WithKeys(trial.FullTree(maxTree), trial.AllAre),
		{Deep: 1, Nodes: trial.BaseTree().Nodes}, trial.NodeSpoilt("", 3, func(n *api.Node) { n.Unmerged = []int{3, 0} }).Tree,
	}
}

// P3: what is handed in is not changed, nor its spare room, whatever the answer is.
func TestListsThatAreHandedIn(t *testing.T) {
	for _, tree := range lentTrees() {
		for _, leaf := range []api.Node{trial.LeafOf(5), trial.LeafOf(6), {}, trial.NodeOf(1, 1)} {
			for name, call := range calls() {
				lent, lentLeaf := trial.LendTree(tree), trial.LendTree(api.Tree{Nodes: []api.Node{leaf}})
				first := call(lent.Tree, lentLeaf.Nodes[0])
				lent.WantSame(t, name)
				lentLeaf.WantSame(t, name+", the leaf")
				trial.WantBytes(t, name+", the same arguments again", call(lent.Tree, lentLeaf.Nodes[0]), first)
				trial.WantBytes(t, name+", of a tree that is alike", call(tree, leaf), first)
				lent.WantSame(t, name)
			}
		}
	}
}

// P3: Get changes nothing of its bytes, be they a tree's or none's, and keeps none of them.
func TestBytesThatAreHandedIn(t *testing.T) {
	var all trial.Calls
	for _, b := range [][]byte{plainPut(trial.BaseTree()), plainPut(trial.BlankTree(6)), plainPut(trial.WithKeys(trial.FullTree(3), trial.AllAre)), {7}, {0}, make([]byte, 9)} {
		all = append(all, trial.Call{Name: "Get", Take: [][]byte{b}, Do: func(take [][]byte) [][]byte {
			tree, err := rtree.Get(take[0])
			first := told(tree, 0, err)
			trial.WantBytes(t, "Get, the same bytes again", told(gotAgain(take[0]), 0, err), first)
			return [][]byte{first}
		}})
	}
	all.WantLent(t)
}

func gotAgain(b []byte) api.Tree {
	tree, _ := rtree.Get(b)
	return tree
}

// P3: bytes that come out are new memory, their spare room too: of each answer, and of the tree.
func TestBytesThatComeOut(t *testing.T) {
	var all trial.Calls
	for _, tree := range []api.Tree{trial.BlankTree(0), trial.BaseTree(), trial.WithKeys(trial.FullTree(2), trial.AllAre)} {
		lent := trial.LendTree(tree)
		all = append(all, trial.Call{Name: "Put", Do: func([][]byte) [][]byte {
			lent.WantSame(t, "Put, behind a change of what came out")
			b, err := rtree.Put(lent.Tree)
			return [][]byte{b, {byte(err)}}
		}})
		for _, s := range spotsOf(tree.Deep) {
			all = append(all, trial.Call{Name: "Sum", Do: func([][]byte) [][]byte {
				lent.WantSame(t, "Sum, behind a change of what came out")
				return [][]byte{rtree.Sum(lent.Tree, s), rtree.Sum(lent.Tree, s)}
			}})
		}
	}
	all.WantNew(t)
}

// P3: numbers that come out are new memory, their spare room too.
func TestNumbersThatComeOut(t *testing.T) {
	for _, tree := range []api.Tree{trial.BaseTree(), trial.WithKeys(trial.FullTree(2), trial.AllAre), trial.TreeOf(2, 1, 3)} {
		lent := trial.LendTree(tree)
		asks := []func() []int{func() []int { return rtree.Leaves(lent.Tree) }}
		for _, s := range spotsOf(2) {
			asks = append(asks, func() []int { return rtree.Resolve(lent.Tree, s) })
		}
		for _, ask := range asks {
			first, again := ask(), ask()
			kept := slices.Clone(again)
			for _, other := range asks {
				spoil(other())
			}
			trial.WantNumbers(t, "asked anew", first, kept)
			spoil(first)
			trial.WantNumbers(t, "behind a change of another", again, kept)
			trial.WantNumbers(t, "asked once more", ask(), kept)
			lent.WantSame(t, "behind a change of what came out")
		}
	}
}

func spoil(l []int) {
	l = l[:cap(l)]
	for i := range l {
		l[i] = -7
	}
}

// P3: trees that are made of one tree may share lists with it, and so none of them changes another one, whatever is done to it by calls.
func TestTreesThatAreMadeOfOne(t *testing.T) {
	for _, first := range []api.Tree{trial.BaseTree(), trial.WithKeys(trial.FullTree(2), trial.AllAre), trial.WithKeys(trial.TreeOf(3, 0, 1, 2, 4, 7), trial.AllAre), trial.BlankTree(0), trial.FullTree(1)} {
		one, _ := wantAdded(t, first, trial.LeafOf(1))
		kept := trial.CopiedTree(one)
		two, i := wantAdded(t, one, trial.LeafOf(2))
		keptTwo := trial.CopiedTree(two)
		three, _ := wantAdded(t, one, trial.LeafOf(3))
		keptThree := trial.CopiedTree(three)
		four := wantRemoved(t, two, i)
		wantAdded(t, four, trial.LeafOf(4))
		wantRenewed(t, two, i, trial.LeafOf(5))
		for _, leaf := range rtree.Leaves(three) {
			wantAdded(t, wantRemoved(t, three, leaf), trial.LeafOf(6))
		}
		trial.WantTree(t, "the first that was made", one, kept)
		trial.WantTree(t, "one made of that", two, keptTwo)
		trial.WantTree(t, "another one made of that", three, keptThree)
	}
}

// P3: the same arguments again, behind other calls and behind errors.
func TestAskedAgain(t *testing.T) {
	tree := trial.BaseTree()
	first, i := wantAdded(t, tree, trial.LeafOf(1))
	b := plainPut(tree)
	for _, x := range trial.WrongUnmerged() {
		wantNoTree(t, x.Name, x.Tree)
		wantNotGot(t, "no tree", b[:len(b)-1], api.ErrEnd)
		again, at := wantAdded(t, tree, trial.LeafOf(1))
		trial.WantNumber(t, "the leaf, again", at, i)
		trial.WantTree(t, "added again", again, first)
	}
	wantTold(t, tree)
}
