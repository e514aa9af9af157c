package trial

import (
	"slices"

	"sodality/api"
)

// WantTree ends a test that got another tree. A list that is nil, and one that is empty, are alike.
func WantTree(t T, what string, got, want api.Tree) {
	t.Helper()
	if got.Deep != want.Deep {
		t.Fatalf("%s: got a tree so deep as %d, want %d", what, got.Deep, want.Deep)
	}
	wantNodes(t, what, got.Nodes, want.Nodes)
}

func wantNodes(t T, what string, got, want []api.Node) {
	t.Helper()
	if len(got) != len(want) {
		t.Fatalf("%s: got %d nodes, want %d", what, len(got), len(want))
	}
	for i, n := range got {
		WantNode(t, what, n, want[i])
	}
}

// WantNode ends a test that got another node.
func WantNode(t T, what string, got, want api.Node) {
	t.Helper()
	if got.Kind != want.Kind {
		t.Fatalf("%s: got a node of kind %d, want %d", what, got.Kind, want.Kind)
	}
	texts := textsOf(&want)
	for i, s := range textsOf(&got) {
		WantBytes(t, what+", text of a node", *s, *texts[i])
	}
	WantNumbers(t, what+", Unmerged", got.Unmerged, want.Unmerged)
}

func textsOf(n *api.Node) []*[]byte { return []*[]byte{&n.Ek, &n.Vk, &n.Name, &n.Above} }

// CopiedTree shares no memory with the tree.
func CopiedTree(t api.Tree) api.Tree {
	return api.Tree{Deep: t.Deep, Nodes: copiedNodes(t.Nodes)}
}

func copiedNodes(all []api.Node) []api.Node {
	out := slices.Clone(all)
	for i := range out {
		for _, s := range textsOf(&out[i]) {
			*s = slices.Clone(*s)
		}
		out[i].Unmerged = slices.Clone(out[i].Unmerged)
	}
	return out
}

// LentTree is a tree of which each list has more ahead of it, and spare room behind: all of it must stay as it was.
type LentTree struct {
	api.Tree
	nodes, wereNodes     []api.Node
	texts, wereTexts     [][]byte
	numbers, wereNumbers [][]int
}

// LendTree need not be handed a tree that is right.
func LendTree(t api.Tree) *LentTree {
	l := &LentTree{Tree: CopiedTree(t)}
	for i := range l.Nodes {
		l.lend(&l.Nodes[i])
	}
	more := []api.Node{{Kind: 7, Ek: []byte("more")}, {Unmerged: []int{7}}}
	l.Nodes, l.nodes = roomy(l.Nodes, more)
	l.wereNodes = copiedNodes(l.nodes)
	return l
}

func (l *LentTree) lend(n *api.Node) {
	for _, s := range textsOf(n) {
		text, room := roomy(*s, []byte("more of it, to stay as it is, whatever is done to the text"))
		*s = text
		l.texts, l.wereTexts = append(l.texts, room), append(l.wereTexts, slices.Clone(room))
	}
	list, room := roomy(n.Unmerged, []int{-7, 7, 70})
	n.Unmerged = list
	l.numbers, l.wereNumbers = append(l.numbers, room), append(l.wereNumbers, slices.Clone(room))
}

// roomy is a list with more ahead of it and behind it, and all the room.
func roomy[E any](list, more []E) (inside, room []E) {
	room = slices.Concat(more, list, more)
	return room[len(more) : len(more)+len(list)], room
}

// WantSame ends a test that changed something of it.
func (l *LentTree) WantSame(t T, what string) {
	t.Helper()
	wantNodes(t, what+", handed in", l.nodes, l.wereNodes)
	for i, room := range l.texts {
		WantBytes(t, what+", handed in", room, l.wereTexts[i])
	}
	for i, room := range l.numbers {
		WantNumbers(t, what+", handed in", room, l.wereNumbers[i])
	}
}
