package rtree_test

import (
	"slices"

	"sodality/api"
	"sodality/trial"
)

// The chapter's numbers.
const (
	maxTree = 6
	ekBytes = 1184
	vkBytes = 1952
	maxName = 16
)

func deeps() []int { return []int{0, 1, 2, 3, maxTree} }

// filled are n bytes, others for each which.
func filled(n, which int) []byte {
	out := make([]byte, n)
	for i := range out {
		out[i] = byte(7*i + i/256 + which)
	}
	return out
}

// leafOf and nodeOf are right ones: others for each which, of which some have an Above, and the leaves' names all lengths.
func leafOf(which int) api.Node {
	return api.Node{Kind: api.IsLeaf, Ek: filled(ekBytes, which), Vk: filled(vkBytes, which+1), Name: filled(1+which%maxName, which+2), Above: aboveOf(which)}
}

func nodeOf(which int, unmerged ...int) api.Node {
	return api.Node{Kind: api.IsNode, Ek: filled(ekBytes, which+3), Above: aboveOf(which), Unmerged: unmerged}
}

func aboveOf(which int) []byte {
	if which%3 == 0 {
		return nil
	}
	return filled(32, which+4)
}

// blankTree has nothing.
func blankTree(deep int) api.Tree {
	return api.Tree{Deep: deep, Nodes: make([]api.Node, 2*manyOf(deep)-1)}
}

// treeOf has those leaves that are told to be there, and all of its nodes blank.
func treeOf(deep int, leaves ...int) api.Tree {
	t := blankTree(deep)
	for _, i := range leaves {
		t.Nodes[2*i] = leafOf(i)
	}
	return t
}

func fullTree(deep int) api.Tree { return treeOf(deep, allBelow(manyOf(deep))...) }

// withKeys has no blank node above its leaves, and those leaves Unmerged that are told to be: at each node, of the leaves there that are below it.
func withKeys(t api.Tree, isUnmerged func(p part, leaf int) bool) api.Tree {
	for _, p := range partsOf(t.Deep) {
		if p.many > 1 {
			t.Nodes[p.number()] = nodeOf(p.number(), plainUnmerged(t, p, isUnmerged)...)
		}
	}
	return t
}

func plainUnmerged(t api.Tree, p part, isUnmerged func(p part, leaf int) bool) []int {
	var out []int
	for i := p.from; i < p.from+p.many; i++ {
		if t.Nodes[2*i].Kind != api.Blank && isUnmerged(p, i) {
			out = append(out, i)
		}
	}
	return out
}

func noneIs(part, int) bool { return false }

func allAre(part, int) bool { return true }

// mixedTree has leaves that are there and such as are not, nodes likewise, and some leaves Unmerged: another one for each which.
func mixedTree(deep, which int) api.Tree {
	t := blankTree(deep)
	bits := trial.Ordinary(3*len(t.Nodes), which)
	for i := range manyOf(deep) {
		if bits[i]%4 > 0 {
			t.Nodes[2*i] = leafOf(i + which)
		}
	}
	t = withKeys(t, func(p part, leaf int) bool { return bits[(5*p.number()+7*leaf)%len(bits)]%3 == 0 })
	for n := 1; n < len(t.Nodes); n += 2 {
		if bits[2*len(t.Nodes)+n]%3 == 0 {
			t.Nodes[n] = api.Node{}
		}
	}
	return t
}

// someTrees are trees of one depth, of all kinds: nothing, leaves alone, nodes alone, and both.
func someTrees(deep int) []api.Tree {
	last := manyOf(deep) - 1
	out := []api.Tree{
		blankTree(deep), treeOf(deep, 0), treeOf(deep, last), fullTree(deep), withKeys(blankTree(deep), noneIs), withKeys(treeOf(deep, 0), allAre),
		withKeys(fullTree(deep), noneIs), withKeys(fullTree(deep), allAre), withKeys(fullTree(deep), func(p part, leaf int) bool { return leaf == last }),
	}
	for which := range 8 {
		out = append(out, mixedTree(deep, 10*deep+which))
	}
	return out
}

// trees are some of each depth.
func trees() []api.Tree {
	var out []api.Tree
	for _, deep := range deeps() {
		out = append(out, someTrees(deep)...)
	}
	return out
}

// allTrees are all that there are of one depth, but for what stands in texts: each leaf there or not, each node blank or not, each leaf below it Unmerged in it or not.
func allTrees(deep int) []api.Tree {
	var out []api.Tree
	for set := range 1 << manyOf(deep) {
		some := []api.Tree{treeOf(deep, chosen(allBelow(manyOf(deep)), set)...)}
		for _, p := range partsOf(deep) {
			if p.many > 1 {
				some = withEachNode(some, p)
			}
		}
		out = append(out, some...)
	}
	return out
}

func withEachNode(some []api.Tree, p part) []api.Tree {
	out := slices.Clone(some)
	for _, t := range some {
		below := plainUnmerged(t, p, allAre)
		for set := range 1 << len(below) {
			other := api.Tree{Deep: t.Deep, Nodes: slices.Clone(t.Nodes)}
			other.Nodes[p.number()] = nodeOf(p.number(), chosen(below, set)...)
			out = append(out, other)
		}
	}
	return out
}

// chosen are those of all whose bits are in the set.
func chosen(all []int, set int) []int {
	var out []int
	for bit, i := range all {
		if set>>bit&1 == 1 {
			out = append(out, i)
		}
	}
	return out
}

// allBelow are 0 and so on.
func allBelow(n int) []int {
	var out []int
	for i := range n {
		out = append(out, i)
	}
	return out
}
