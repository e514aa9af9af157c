package trial

import (
	"math"
	"slices"

	"sodality/api"
)

// BaseTree has a blank among its leaves and its nodes, and leaves that are Unmerged.
func BaseTree() api.Tree {
	t := TreeOf(2, 0, 1, 3)
	t.Nodes[1], t.Nodes[3] = NodeOf(1, 1), NodeOf(3, 0, 3)
	return t
}

// Spoilt is BaseTree but for one thing.
type Spoilt struct {
	Name string
	Tree api.Tree
}

// NodeSpoilt has one thing else in the node of that number.
func NodeSpoilt(name string, number int, change func(n *api.Node)) Spoilt {
	t := BaseTree()
	change(&t.Nodes[number])
	return Spoilt{name, t}
}

// WrongTrees are not right, each by one thing alone.
func WrongTrees() []Spoilt {
	return slices.Concat(wrongDeeps(), wrongMany(), wrongBlanks(), wrongKinds(), wrongLeaves(), wrongNodes(), WrongUnmerged())
}

func wrongDeeps() []Spoilt {
	var out []Spoilt
	for _, deep := range []int{-1, -2, -7, 7, 8, 16, 17, 31, 32, 61, 62, 63, 64, 65, 66, 256 + 2, 1<<32 + 2, math.MinInt, math.MinInt + 2, math.MaxInt} {
		for _, nodes := range [][]api.Node{nil, {}, {{}}, BaseTree().Nodes, BlankTree(api.MaxTree).Nodes} {
			out = append(out, Spoilt{"a Deep that may not be", api.Tree{Deep: deep, Nodes: nodes}})
		}
	}
	for _, deep := range []int{7, 8} {
		out = append(out, Spoilt{"a tree too deep", BlankTree(deep)}, Spoilt{"a tree too deep, with leaves", FullTree(deep)})
	}
	return append(out, Spoilt{"too deep for its nodes", api.Tree{Deep: 3, Nodes: BaseTree().Nodes}}, Spoilt{"not deep enough for its nodes", api.Tree{Deep: 1, Nodes: BaseTree().Nodes}})
}

func wrongMany() []Spoilt {
	out := []Spoilt{{"nothing", api.Tree{}}, {"nothing that is not nil", api.Tree{Nodes: []api.Node{}}}}
	for _, deep := range Deeps() {
		for _, t := range []api.Tree{BlankTree(deep), WithKeys(FullTree(deep), NoneIs)} {
			nodes, many := t.Nodes, len(t.Nodes)
			for name, some := range map[string][]api.Node{
				"a node too few": nodes[:many-1], "a node too few, spare room": nodes[: many-1 : many-1], "the first one not there": nodes[1:], "none": nil, "none that is not nil": {},
				"a node too many": slices.Concat(nodes, []api.Node{{}}), "two too many": slices.Concat(nodes, make([]api.Node, 2)), "half of them": nodes[:many/2],
				"as many leaves as nodes": make([]api.Node, many/2+1+many%2), "twice as many": make([]api.Node, 2*many),
			} {
				if len(some) != many {
					out = append(out, Spoilt{name, api.Tree{Deep: deep, Nodes: some}})
				}
			}
		}
	}
	return out
}

func wrongBlanks() []Spoilt {
	var out []Spoilt
	for _, number := range []int{4, 5} {
		for _, n := range []int{1, 16, 32, api.KemEk, api.DsaPk} {
			out = append(out,
				NodeSpoilt("a blank with an Ek", number, func(x *api.Node) { x.Ek = make([]byte, n) }),
				NodeSpoilt("a blank with a Vk", number, func(x *api.Node) { x.Vk = make([]byte, n) }),
				NodeSpoilt("a blank with a Name", number, func(x *api.Node) { x.Name = make([]byte, n) }),
				NodeSpoilt("a blank with an Above", number, func(x *api.Node) { x.Above = make([]byte, n) }))
		}
		for _, some := range [][]int{{3}, {0}, {2}, {-1}, {0, 1, 3}} {
			out = append(out, NodeSpoilt("a blank with Unmerged ones", number, func(x *api.Node) { x.Unmerged = some }))
		}
	}
	return append(out, NodeSpoilt("a blank that was a leaf", 0, func(x *api.Node) { x.Kind = api.Blank }), NodeSpoilt("a blank that was a node", 3, func(x *api.Node) { x.Kind = api.Blank }))
}

func wrongKinds() []Spoilt {
	out := []Spoilt{
		NodeSpoilt("a leaf at an odd number", 1, func(x *api.Node) { *x = LeafOf(1) }),
		NodeSpoilt("a leaf at the top", 3, func(x *api.Node) { *x = LeafOf(1) }),
		NodeSpoilt("a leaf at a blank odd number", 5, func(x *api.Node) { *x = LeafOf(1) }),
		NodeSpoilt("a node at an even number", 0, func(x *api.Node) { *x = NodeOf(1) }),
		NodeSpoilt("a node at the last number", 6, func(x *api.Node) { *x = NodeOf(1) }),
		NodeSpoilt("a node at a blank even number", 4, func(x *api.Node) { *x = NodeOf(1) }),
		NodeSpoilt("a node with its leaf Unmerged, at an even number", 2, func(x *api.Node) { *x = NodeOf(1, 1) }),
		NodeSpoilt("a leaf that is called a node", 2, func(x *api.Node) { x.Kind = api.IsNode }),
		NodeSpoilt("a node that is called a leaf", 3, func(x *api.Node) { x.Kind = api.IsLeaf }),
		{"a node alone", api.Tree{Nodes: []api.Node{NodeOf(1)}}},
	}
	for _, kind := range []int{-1, -2, 3, 4, 255, 256, 257, 258, 1 << 32, 1<<32 + 1, math.MinInt, math.MaxInt} {
		for number := range 7 {
			out = append(out, NodeSpoilt("a Kind that is none", number, func(x *api.Node) { x.Kind = kind }))
		}
	}
	return out
}

// NoLeafNodes are no right leaves, each by one thing alone, but for blanks and nodes.
func NoLeafNodes() []Spoilt {
	var out []Spoilt
	add := func(name string, change func(n *api.Node)) { out = append(out, NodeSpoilt(name, 2, change)) }
	for _, n := range []int{0, 1, 32, api.KemEk - 32, api.KemEk - 1, api.KemEk + 1, api.DsaPk, 2 * api.KemEk} {
		add("a leaf's Ek", func(x *api.Node) { x.Ek = make([]byte, n) })
	}
	for _, n := range []int{0, 1, 32, api.KemEk, api.DsaPk - 1, api.DsaPk + 1, 2 * api.DsaPk} {
		add("a leaf's Vk", func(x *api.Node) { x.Vk = make([]byte, n) })
	}
	for _, n := range []int{0, api.MaxName + 1, api.MaxName + 2, 32, 256, 256 + api.MaxName} {
		add("a leaf's Name", func(x *api.Node) { x.Name = make([]byte, n) })
	}
	for _, n := range wrongAboves() {
		add("a leaf's Above", func(x *api.Node) { x.Above = make([]byte, n) })
	}
	for _, some := range [][]int{{1}, {0}, {2}, {3}, {-1}, {0, 1}} {
		add("a leaf with Unmerged ones", func(x *api.Node) { x.Unmerged = some })
	}
	add("no Ek", func(x *api.Node) { x.Ek = nil })
	add("no Vk", func(x *api.Node) { x.Vk = nil })
	add("no Name", func(x *api.Node) { x.Name = nil })
	add("Ek and Vk the other way round", func(x *api.Node) { x.Ek, x.Vk = x.Vk, x.Ek })
	return out
}

func wrongAboves() []int { return []int{1, 2, 16, 31, 33, 48, 63, 64, 65, 256, 288} }

func wrongLeaves() []Spoilt {
	out := NoLeafNodes()
	for _, x := range NoLeafNodes() {
		out = append(out, Spoilt{x.Name + ", alone in its tree", api.Tree{Nodes: x.Tree.Nodes[2:3]}})
	}
	return out
}

func wrongNodes() []Spoilt {
	var out []Spoilt
	for _, number := range []int{1, 3} {
		for _, n := range []int{0, 1, 32, api.KemEk - 32, api.KemEk - 1, api.KemEk + 1, api.DsaPk, 2 * api.KemEk} {
			out = append(out, NodeSpoilt("a node's Ek", number, func(x *api.Node) { x.Ek = make([]byte, n) }))
		}
		for _, n := range []int{1, 16, 32, api.KemEk, api.DsaPk} {
			out = append(out,
				NodeSpoilt("a node with a Vk", number, func(x *api.Node) { x.Vk = make([]byte, n) }),
				NodeSpoilt("a node with a Name", number, func(x *api.Node) { x.Name = make([]byte, n) }))
		}
		for _, n := range wrongAboves() {
			out = append(out, NodeSpoilt("a node's Above", number, func(x *api.Node) { x.Above = make([]byte, n) }))
		}
		out = append(out, NodeSpoilt("no Ek", number, func(x *api.Node) { x.Ek = nil }))
	}
	return out
}

func WrongUnmerged() []Spoilt {
	var out []Spoilt
	add := func(name string, number int, all ...[]int) {
		for _, some := range all {
			out = append(out, NodeSpoilt("Unmerged: "+name, number, func(x *api.Node) { *x = NodeOf(1, some...) }))
		}
	}
	add("they fall", 1, []int{1, 0})
	add("they fall", 3, []int{1, 0}, []int{3, 0}, []int{3, 1}, []int{3, 1, 0}, []int{0, 3, 1}, []int{1, 0, 3})
	add("twice there", 1, []int{0, 0}, []int{1, 1}, []int{0, 1, 1}, []int{0, 0, 1})
	add("twice there", 3, []int{3, 3}, []int{0, 1, 1, 3}, []int{0, 1, 0}, []int{0, 1, 3, 3})
	for _, number := range []int{1, 3} {
		add("below nothing", number, []int{4}, []int{6}, []int{7}, []int{0, 4}, []int{0, 1, 4}, []int{0, 1 << 16}, []int{0, 1<<32 + 1})
		for _, i := range NoLeaves() {
			add("below nothing", number, []int{i})
		}
	}
	add("not below the node", 1, []int{3}, []int{0, 3}, []int{0, 1, 3})
	add("not below the node", 5, []int{0}, []int{1}, []int{0, 3}, []int{1, 3})
	add("blank", 3, []int{2}, []int{0, 2}, []int{2, 3}, []int{0, 1, 2, 3})
	add("blank", 5, []int{2}, []int{2, 3})
	return out
}

// NoLeaves are in no tree.
func NoLeaves() []int {
	return []int{-1, -2, -64, 64, 65, 127, 128, 1 << 16, 1<<32 + 1, 1 << 62, math.MinInt, math.MinInt + 1, math.MaxInt, math.MaxInt - 1}
}
