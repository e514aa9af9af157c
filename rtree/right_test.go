package rtree_test

import (
	"math"
	"slices"
	"testing"

	"sodality/api"
	"sodality/rtree"
	"sodality/trial"
)

func TestBounds(t *testing.T) {
	wantNumber(t, "how deep a group's tree may be", api.MaxTree, maxTree)
	wantNumber(t, "the bytes of a key to close with", api.KemEk, ekBytes)
	wantNumber(t, "the bytes of a key to verify with", api.DsaPk, vkBytes)
	wantNumber(t, "the bytes of a name", api.MaxName, maxName)
}

// base has a blank among its leaves and its nodes, and leaves that are Unmerged.
func base() api.Tree {
	t := treeOf(2, 0, 1, 3)
	t.Nodes[1], t.Nodes[3] = nodeOf(1, 1), nodeOf(3, 0, 3)
	return t
}

// spoilt is base but for one thing.
type spoilt struct {
	name string
	tree api.Tree
}

// nodeSpoilt has one thing else in the node of that number.
func nodeSpoilt(name string, number int, change func(n *api.Node)) spoilt {
	t := base()
	change(&t.Nodes[number])
	return spoilt{name, t}
}

// wrongTrees are not right, each by one thing alone.
func wrongTrees() []spoilt {
	return slices.Concat(wrongDeeps(), wrongMany(), wrongBlanks(), wrongKinds(), wrongLeaves(), wrongNodes(), wrongUnmerged())
}

func wrongDeeps() []spoilt {
	var out []spoilt
	for _, deep := range []int{-1, -2, -7, 7, 8, 16, 17, 31, 32, 61, 62, 63, 64, 65, 66, 256 + 2, 1<<32 + 2, math.MinInt, math.MinInt + 2, math.MaxInt} {
		for _, nodes := range [][]api.Node{nil, {}, {{}}, base().Nodes, blankTree(maxTree).Nodes} {
			out = append(out, spoilt{"a Deep that may not be", api.Tree{Deep: deep, Nodes: nodes}})
		}
	}
	for _, deep := range []int{7, 8} {
		out = append(out, spoilt{"a tree too deep", blankTree(deep)}, spoilt{"a tree too deep, with leaves", fullTree(deep)})
	}
	return append(out, spoilt{"too deep for its nodes", api.Tree{Deep: 3, Nodes: base().Nodes}}, spoilt{"not deep enough for its nodes", api.Tree{Deep: 1, Nodes: base().Nodes}})
}

func wrongMany() []spoilt {
	out := []spoilt{{"nothing", api.Tree{}}, {"nothing that is not nil", api.Tree{Nodes: []api.Node{}}}}
	for _, deep := range deeps() {
		for _, t := range []api.Tree{blankTree(deep), withKeys(fullTree(deep), noneIs)} {
			nodes, many := t.Nodes, len(t.Nodes)
			for name, some := range map[string][]api.Node{
				"a node too few": nodes[:many-1], "a node too few, spare room": nodes[: many-1 : many-1], "the first one not there": nodes[1:], "none": nil, "none that is not nil": {},
				"a node too many": slices.Concat(nodes, []api.Node{{}}), "two too many": slices.Concat(nodes, make([]api.Node, 2)), "half of them": nodes[:many/2],
				"as many leaves as nodes": make([]api.Node, many/2+1+many%2), "twice as many": make([]api.Node, 2*many),
			} {
				if len(some) != many {
					out = append(out, spoilt{name, api.Tree{Deep: deep, Nodes: some}})
				}
			}
		}
	}
	return out
}

func wrongBlanks() []spoilt {
	var out []spoilt
	for _, number := range []int{4, 5} {
		for _, n := range []int{1, 16, 32, ekBytes, vkBytes} {
			out = append(out,
				nodeSpoilt("a blank with an Ek", number, func(x *api.Node) { x.Ek = make([]byte, n) }),
				nodeSpoilt("a blank with a Vk", number, func(x *api.Node) { x.Vk = make([]byte, n) }),
				nodeSpoilt("a blank with a Name", number, func(x *api.Node) { x.Name = make([]byte, n) }),
				nodeSpoilt("a blank with an Above", number, func(x *api.Node) { x.Above = make([]byte, n) }))
		}
		for _, some := range [][]int{{3}, {0}, {2}, {-1}, {0, 1, 3}} {
			out = append(out, nodeSpoilt("a blank with Unmerged ones", number, func(x *api.Node) { x.Unmerged = some }))
		}
	}
	return append(out, nodeSpoilt("a blank that was a leaf", 0, func(x *api.Node) { x.Kind = api.Blank }), nodeSpoilt("a blank that was a node", 3, func(x *api.Node) { x.Kind = api.Blank }))
}

func wrongKinds() []spoilt {
	out := []spoilt{
		nodeSpoilt("a leaf at an odd number", 1, func(x *api.Node) { *x = leafOf(1) }),
		nodeSpoilt("a leaf at the top", 3, func(x *api.Node) { *x = leafOf(1) }),
		nodeSpoilt("a leaf at a blank odd number", 5, func(x *api.Node) { *x = leafOf(1) }),
		nodeSpoilt("a node at an even number", 0, func(x *api.Node) { *x = nodeOf(1) }),
		nodeSpoilt("a node at the last number", 6, func(x *api.Node) { *x = nodeOf(1) }),
		nodeSpoilt("a node at a blank even number", 4, func(x *api.Node) { *x = nodeOf(1) }),
		nodeSpoilt("a node with its leaf Unmerged, at an even number", 2, func(x *api.Node) { *x = nodeOf(1, 1) }),
		nodeSpoilt("a leaf that is called a node", 2, func(x *api.Node) { x.Kind = api.IsNode }),
		nodeSpoilt("a node that is called a leaf", 3, func(x *api.Node) { x.Kind = api.IsLeaf }),
		{"a node alone", api.Tree{Nodes: []api.Node{nodeOf(1)}}},
	}
	for _, kind := range []int{-1, -2, 3, 4, 255, 256, 257, 258, 1 << 32, 1<<32 + 1, math.MinInt, math.MaxInt} {
		for number := range 7 {
			out = append(out, nodeSpoilt("a Kind that is none", number, func(x *api.Node) { x.Kind = kind }))
		}
	}
	return out
}

// noLeafNodes are no right leaves, each by one thing alone, but for blanks and nodes.
func noLeafNodes() []spoilt {
	var out []spoilt
	add := func(name string, change func(n *api.Node)) { out = append(out, nodeSpoilt(name, 2, change)) }
	for _, n := range []int{0, 1, 32, ekBytes - 32, ekBytes - 1, ekBytes + 1, vkBytes, 2 * ekBytes} {
		add("a leaf's Ek", func(x *api.Node) { x.Ek = make([]byte, n) })
	}
	for _, n := range []int{0, 1, 32, ekBytes, vkBytes - 1, vkBytes + 1, 2 * vkBytes} {
		add("a leaf's Vk", func(x *api.Node) { x.Vk = make([]byte, n) })
	}
	for _, n := range []int{0, maxName + 1, maxName + 2, 32, 256, 256 + maxName} {
		add("a leaf's Name", func(x *api.Node) { x.Name = make([]byte, n) })
	}
	for _, n := range wrongAboves() {
		add("a leaf's Above", func(x *api.Node) { x.Above = make([]byte, n) })
	}
	for _, some := range [][]int{{1}, {0}, {2}, {3}, {-1}, {0, 1}} {
		add("a leaf with Unmerged ones", func(x *api.Node) { x.Unmerged = some })
	}
	add("no Ek", func(x *api.Node) { x.Ek = nil })
	add("no Vk", func(x *api.Node) { x.Vk = nil })
	add("no Name", func(x *api.Node) { x.Name = nil })
	add("Ek and Vk the other way round", func(x *api.Node) { x.Ek, x.Vk = x.Vk, x.Ek })
	return out
}

func wrongAboves() []int { return []int{1, 2, 16, 31, 33, 48, 63, 64, 65, 256, 288} }

func wrongLeaves() []spoilt {
	out := noLeafNodes()
	for _, x := range noLeafNodes() {
		out = append(out, spoilt{x.name + ", alone in its tree", api.Tree{Nodes: x.tree.Nodes[2:3]}})
	}
	return out
}

func wrongNodes() []spoilt {
	var out []spoilt
	for _, number := range []int{1, 3} {
		for _, n := range []int{0, 1, 32, ekBytes - 32, ekBytes - 1, ekBytes + 1, vkBytes, 2 * ekBytes} {
			out = append(out, nodeSpoilt("a node's Ek", number, func(x *api.Node) { x.Ek = make([]byte, n) }))
		}
		for _, n := range []int{1, 16, 32, ekBytes, vkBytes} {
			out = append(out,
				nodeSpoilt("a node with a Vk", number, func(x *api.Node) { x.Vk = make([]byte, n) }),
				nodeSpoilt("a node with a Name", number, func(x *api.Node) { x.Name = make([]byte, n) }))
		}
		for _, n := range wrongAboves() {
			out = append(out, nodeSpoilt("a node's Above", number, func(x *api.Node) { x.Above = make([]byte, n) }))
		}
		out = append(out, nodeSpoilt("no Ek", number, func(x *api.Node) { x.Ek = nil }))
	}
	return out
}

func wrongUnmerged() []spoilt {
	var out []spoilt
	add := func(name string, number int, all ...[]int) {
		for _, some := range all {
			out = append(out, nodeSpoilt("Unmerged: "+name, number, func(x *api.Node) { *x = nodeOf(1, some...) }))
		}
	}
	add("they fall", 1, []int{1, 0})
	add("they fall", 3, []int{1, 0}, []int{3, 0}, []int{3, 1}, []int{3, 1, 0}, []int{0, 3, 1}, []int{1, 0, 3})
	add("twice there", 1, []int{0, 0}, []int{1, 1}, []int{0, 1, 1}, []int{0, 0, 1})
	add("twice there", 3, []int{3, 3}, []int{0, 1, 1, 3}, []int{0, 1, 0}, []int{0, 1, 3, 3})
	for _, number := range []int{1, 3} {
		add("below nothing", number, []int{4}, []int{6}, []int{7}, []int{0, 4}, []int{0, 1, 4}, []int{0, 1 << 16}, []int{0, 1<<32 + 1})
		for _, i := range noLeaves() {
			add("below nothing", number, []int{i})
		}
	}
	add("not below the node", 1, []int{3}, []int{0, 3}, []int{0, 1, 3})
	add("not below the node", 5, []int{0}, []int{1}, []int{0, 3}, []int{1, 3})
	add("blank", 3, []int{2}, []int{0, 2}, []int{2, 3}, []int{0, 1, 2, 3})
	add("blank", 5, []int{2}, []int{2, 3})
	return out
}

// P14.1: none of them is right, and no call answers anything of them but ErrTree.
func TestTreesThatAreNotRight(t *testing.T) {
	wantRight(t, "what they are made of", base(), true)
	for _, x := range wrongTrees() {
		wantRight(t, x.name, x.tree, plainRight(x.tree))
		wantNoTree(t, x.name, x.tree)
	}
}

// P14.1 (Z1): one node alone may make a tree wrong, wherever it is.
func TestOneNodeThatIsNotRight(t *testing.T) {
	for _, deep := range deeps() {
		for number := range 2*manyOf(deep) - 1 {
			for _, wrong := range []api.Node{{Kind: 3}, {Ek: []byte{0}}, {Kind: api.IsLeaf}, {Kind: api.IsNode}, leafOf(1), nodeOf(1), nodeOf(1, 64), nodeOf(1, -1)} {
				tree := withKeys(fullTree(deep), noneIs)
				tree.Nodes[number] = wrong
				wantRight(t, "one node alone", tree, plainRight(tree))
			}
		}
	}
}

// P14.1 (Z1): each leaf, Unmerged at each node: only where it is below it, and there.
func TestOneUnmerged(t *testing.T) {
	for _, deep := range deeps() {
		for _, p := range partsOf(deep)[:manyOf(deep)-1] {
			for i := range manyOf(deep) {
				tree := fullTree(deep)
				tree.Nodes[p.number()] = nodeOf(1, i)
				wantRight(t, "one Unmerged leaf", tree, p.has(i))
				tree.Nodes[2*i] = api.Node{}
				wantRight(t, "one that is blank", tree, false)
			}
		}
	}
}

// P14.1 (Z1): trees of all kinds are right, and told as they should be.
func TestRightTrees(t *testing.T) {
	for _, tree := range trees() {
		wantTold(t, tree)
	}
}

// P14.1, P14.2, P14.4: all trees that are not deep.
func TestAllTreesThatAreNotDeep(t *testing.T) {
	many := 0
	for deep := range 3 {
		all := allTrees(deep)
		many += len(all)
		for _, tree := range all {
			wantTold(t, tree)
			wantStandsOver(t, tree)
		}
	}
	wantNumber(t, "how many there are", many, 2+13+1325)
}

// P14.1 (Z1): the edges of what is right.
func TestEdgesOfRight(t *testing.T) {
	for _, name := range []int{1, 2, maxName - 1, maxName} {
		for _, above := range []int{0, 32} {
			tree := base()
			tree.Nodes[2].Name, tree.Nodes[2].Above, tree.Nodes[3].Above = make([]byte, name), make([]byte, above), make([]byte, above)
			wantTold(t, tree)
		}
	}
	empty := base()
	for i := range empty.Nodes {
		n := &empty.Nodes[i]
		for _, s := range []*[]byte{&n.Ek, &n.Vk, &n.Name, &n.Above} {
			*s = append([]byte{}, *s...)
		}
		n.Unmerged = append([]int{}, n.Unmerged...)
	}
	wantTold(t, empty)
	for _, some := range [][]int{nil, {0}, {1}, {3}, {0, 1}, {0, 3}, {1, 3}, {0, 1, 3}} {
		tree := base()
		tree.Nodes[3].Unmerged = some
		wantTold(t, tree)
	}
}

// P14.1 (Z1): told by hand.
func TestLeavesByHand(t *testing.T) {
	for _, x := range []struct {
		tree api.Tree
		want []int
	}{
		{blankTree(0), nil}, {treeOf(0, 0), []int{0}}, {blankTree(1), nil}, {treeOf(1, 1), []int{1}}, {treeOf(1, 0, 1), []int{0, 1}},
		{base(), []int{0, 1, 3}}, {blankTree(6), nil}, {treeOf(6, 0, 7, 62, 63), []int{0, 7, 62, 63}}, {withKeys(blankTree(3), noneIs), nil},
	} {
		wantNumbers(t, "Leaves", rtree.Leaves(x.tree), x.want)
	}
}

// P14.1 (Z1): whatever the lists have in length, it is as in the other way.
func TestWhateverNodes(t *testing.T) {
	right := 0
	for which := range 20000 {
		b := trial.Ordinary(16, which)
		tree := mixedTree(int(b[0])%3, which%16)
		n := &tree.Nodes[int(b[1])%len(tree.Nodes)]
		switch b[2] % 8 {
		case 0:
			n.Kind = int(b[3]) % 4
		case 1:
			n.Ek = make([]byte, ekBytes+int(b[3])%3-1)
		case 2:
			n.Vk = make([]byte, vkBytes+int(b[3])%3-1)
		case 3:
			n.Name = make([]byte, int(b[3])%19)
		case 4:
			n.Above = make([]byte, 31+int(b[3])%3)
		case 5:
			n.Unmerged = []int{int(b[3]) % 4, int(b[4]) % 4}
		case 6:
			n.Unmerged = []int{int(b[3]) % 4}
		case 7:
			tree.Deep += int(b[3])%5/4 - int(b[4])%5/4
		}
		want := plainRight(tree)
		wantRight(t, "whatever it has", tree, want)
		if want {
			right++
		}
	}
	if right < 2000 || right > 18000 {
		t.Errorf("%d of 20000 were right", right)
	}
}
