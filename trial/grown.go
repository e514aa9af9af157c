package trial

import (
	"slices"

	"sodality/api"
)

// Deeps are those of trees that are tried: all that are small, and the deepest.
func Deeps() []int { return []int{0, 1, 2, 3, api.MaxTree} }

// Filled are n bytes, others for each which.
func Filled(n, which int) []byte {
	out := make([]byte, n)
	for i := range out {
		out[i] = byte(7*i + i/256 + which)
	}
	return out
}

// LeafOf and NodeOf are right ones: others for each which, of which some have an Above, and the leaves' names all lengths.
func LeafOf(which int) api.Node {
	return api.Node{Kind: api.IsLeaf, Ek: Filled(api.KemEk, which), Vk: Filled(api.DsaPk, which+1), Name: Filled(1+which%api.MaxName, which+2), Above: aboveOf(which)}
}

func NodeOf(which int, unmerged ...int) api.Node {
	return api.Node{Kind: api.IsNode, Ek: Filled(api.KemEk, which+3), Above: aboveOf(which), Unmerged: unmerged}
}

func aboveOf(which int) []byte {
	if which%3 == 0 {
		return nil
	}
	return Filled(32, which+4)
}

// BlankTree has nothing.
func BlankTree(deep int) api.Tree {
	return api.Tree{Deep: deep, Nodes: make([]api.Node, 2*ManyOf(deep)-1)}
}

// TreeOf has those leaves that are told to be there, and all of its nodes blank.
func TreeOf(deep int, leaves ...int) api.Tree {
	t := BlankTree(deep)
	for _, i := range leaves {
		t.Nodes[2*i] = LeafOf(i)
	}
	return t
}

func FullTree(deep int) api.Tree { return TreeOf(deep, allBelow(ManyOf(deep))...) }

// WithKeys has no blank node above its leaves, and those leaves Unmerged that are told to be: at each node, of the leaves there that are below it.
func WithKeys(t api.Tree, isUnmerged func(p Part, leaf int) bool) api.Tree {
	for _, p := range PartsOf(t.Deep) {
		if p.Many > 1 {
			t.Nodes[p.Number()] = NodeOf(p.Number(), p.Chosen(t, isUnmerged)...)
		}
	}
	return t
}

func NoneIs(Part, int) bool { return false }

func AllAre(Part, int) bool { return true }

// MixedTree has leaves that are there and such as are not, nodes likewise, and some leaves Unmerged: another one for each which.
func MixedTree(deep, which int) api.Tree {
	t := BlankTree(deep)
	bits := Ordinary(3*len(t.Nodes), which)
	for i := range ManyOf(deep) {
		if bits[i]%4 > 0 {
			t.Nodes[2*i] = LeafOf(i + which)
		}
	}
	t = WithKeys(t, func(p Part, leaf int) bool { return bits[(5*p.Number()+7*leaf)%len(bits)]%3 == 0 })
	for n := 1; n < len(t.Nodes); n += 2 {
		if bits[2*len(t.Nodes)+n]%3 == 0 {
			t.Nodes[n] = api.Node{}
		}
	}
	return t
}

// someTrees are trees of one depth, of all kinds: nothing, leaves alone, nodes alone, and both.
func someTrees(deep int) []api.Tree {
	last := ManyOf(deep) - 1
	out := []api.Tree{
		BlankTree(deep), TreeOf(deep, 0), TreeOf(deep, last), FullTree(deep), WithKeys(BlankTree(deep), NoneIs), WithKeys(TreeOf(deep, 0), AllAre),
		WithKeys(FullTree(deep), NoneIs), WithKeys(FullTree(deep), AllAre), WithKeys(FullTree(deep), func(p Part, leaf int) bool { return leaf == last }),
	}
	for which := range 8 {
		out = append(out, MixedTree(deep, 10*deep+which))
	}
	return out
}

// Trees are some of each depth.
func Trees() []api.Tree {
	var out []api.Tree
	for _, deep := range Deeps() {
		out = append(out, someTrees(deep)...)
	}
	return out
}

// AllTrees are all that there are of one depth, but for what stands in texts: each leaf there or not, each node blank or not, each leaf below it Unmerged in it or not.
func AllTrees(deep int) []api.Tree {
	var out []api.Tree
	for set := range 1 << ManyOf(deep) {
		some := []api.Tree{TreeOf(deep, chosen(allBelow(ManyOf(deep)), set)...)}
		for _, p := range PartsOf(deep) {
			if p.Many > 1 {
				some = withEachNode(some, p)
			}
		}
		out = append(out, some...)
	}
	return out
}

func withEachNode(some []api.Tree, p Part) []api.Tree {
	out := slices.Clone(some)
	for _, t := range some {
		below := p.Chosen(t, AllAre)
		for set := range 1 << len(below) {
			other := api.Tree{Deep: t.Deep, Nodes: slices.Clone(t.Nodes)}
			other.Nodes[p.Number()] = NodeOf(p.Number(), chosen(below, set)...)
			out = append(out, other)
		}
	}
	return out
}

// chosen are those of all whose bits are in the set.
func chosen(all []int, set int) []int {
	var out []int
	for bit, i := range all {
		if set>>bit&1 == 1 {
			out = append(out, i)
		}
	}
	return out
}

// allBelow are 0 and so on.
func allBelow(n int) []int {
	var out []int
	for i := range n {
		out = append(out, i)
	}
	return out
}
