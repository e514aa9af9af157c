package rtree

import (
	"iter"
	"slices"

	"sodality/api"
	"sodality/sha2"
	"sodality/spot"
)

// below are the two spots below one, the left one first; a leaf has none.
func below(s complex128) []complex128 {
	if real(s) == 0 {
		return nil
	}
	return []complex128{spot.Down(s, false), spot.Down(s, true)}
}

// resolution tells the nodes that stand for a spot of the tree, from left to right.
func resolution(t api.Tree, s complex128) iter.Seq[int] {
	number := spot.Index(s)
	n := t.Nodes[number]
	if n.Kind != api.Blank {
		return known(number, n.Unmerged)
	}
	return func(yield func(int) bool) {
		for _, half := range below(s) {
			for stands := range resolution(t, half) {
				if !yield(stands) {
					return
				}
			}
		}
	}
}

// known tells a node that has a key, and behind it the leaves that do not know that.
func known(number int, unmerged []int) iter.Seq[int] {
	return func(yield func(int) bool) {
		if !yield(number) {
			return
		}
		for _, leaf := range unmerged {
			if !yield(2 * leaf) {
				return
			}
		}
	}
}

// sumOf is the sum of a spot of the tree.
func sumOf(t api.Tree, s complex128) []byte {
	h := sha2.New()
	h.Write(nodeBytes(t.Nodes[spot.Index(s)]))
	for _, half := range below(s) {
		h.Write(sumOf(t, half))
	}
	return h.Sum()
}

// copied has the tree's nodes, and behind them blank ones, if it is deeper. What the nodes have is shared: a list of theirs is never changed, but made anew.
func copied(t api.Tree, deep int) api.Tree {
	out := api.Tree{Deep: deep, Nodes: make([]api.Node, nodes(deep))}
	copy(out.Nodes, t.Nodes)
	return out
}

// above tells the nodes above a leaf where they stand, from below, so that they can be changed there.
func above(t api.Tree, leaf int) iter.Seq[*api.Node] {
	return func(yield func(*api.Node) bool) {
		for _, s := range spot.Path(leaf, t.Deep) {
			if !yield(&t.Nodes[spot.Index(s)]) {
				return
			}
		}
	}
}

// firstBlank is the first leaf that is not there, be it one that a deeper tree would have.
func firstBlank(t api.Tree) int {
	i := 0
	for isThere(t, i) {
		i++
	}
	return i
}

// withLeaf has one more, still rising.
func withLeaf(unmerged []int, leaf int) []int {
	at, _ := slices.BinarySearch(unmerged, leaf)
	return slices.Concat(unmerged[:at], []int{leaf}, unmerged[at:])
}

// replaced has another node as a leaf. Only nodes above could have the old one Unmerged, and they are blank.
func replaced(t api.Tree, leaf int, n api.Node) api.Tree {
	out := copied(t, t.Deep)
	out.Nodes[2*leaf] = n
	for node := range above(out, leaf) {
		*node = api.Node{}
	}
	return out
}

// cut is the left half, and of that again, as long as no leaf of the right one is there.
func cut(t api.Tree) api.Tree {
	if t.Deep == 0 || slices.ContainsFunc(t.Nodes[leaves(t.Deep):], isLeaf) {
		return t
	}
	deep := t.Deep - 1
	return cut(api.Tree{Deep: deep, Nodes: slices.Clip(t.Nodes[:nodes(deep)])})
}

func isLeaf(n api.Node) bool { return n.Kind == api.IsLeaf }
