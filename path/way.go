package path

import (
	"iter"
	"slices"

	"sodality/api"
	"sodality/mlkem"
	"sodality/rtree"
	"sodality/sha2"
	"sodality/spot"
	"sodality/wire"
)

// place is a spot of a filtered path, and what is beside it.
type place struct{ spot, beside complex128 }

func (p place) number() int { return spot.Index(p.spot) }

func numbers(way []place) []int {
	var out []int
	for _, p := range way {
		out = append(out, p.number())
	}
	return out
}

// errorOf is what all calls say of a tree and a leaf ahead of anything else.
func errorOf(t api.Tree, leaf int) api.Errno {
	if !rtree.Right(t) {
		return api.ErrTree
	}
	if !slices.Contains(rtree.Leaves(t), leaf) {
		return api.ErrLeaf
	}
	return api.OK
}

// filtered is the filtered path of a leaf, from below.
func filtered(t api.Tree, leaf int) []place {
	beside := spot.Beside(leaf, t.Deep)
	var way []place
	for i, s := range spot.Path(leaf, t.Deep) {
		if len(rtree.Resolve(t, beside[i])) > 0 {
			way = append(way, place{s, beside[i]})
		}
	}
	return way
}

// toldIn answers who is told at a place. A number of skip is not doubled: the double of a great one could be another leaf's number.
func toldIn(t api.Tree, skip []int) func(p place) []int {
	isNew := func(number int) bool { return number%2 == 0 && slices.Contains(skip, number/2) }
	return func(p place) []int {
		return slices.DeleteFunc(rtree.Resolve(t, p.beside), isNew)
	}
}

// fits: has the update a step for each place, and no key that is not right?
func fits(u api.Update, way []place) bool {
	isWrong := func(s api.Step) bool { return !mlkem.RightClose(s.Ek) }
	return len(u.Steps) == len(way) && mlkem.RightClose(u.Ek) && !slices.ContainsFunc(u.Steps, isWrong)
}

// hasBoxes: has each step of an update that fits as many boxes as are told there?
func hasBoxes(u api.Update, way []place, told func(p place) []int) bool {
	for i, p := range way {
		if len(u.Steps[i].Boxes) != len(told(p)) {
			return false
		}
	}
	return true
}

// laid is the tree with the path of an update that fits. The filtered path is still the same in it, as nothing changes beside.
func laid(t api.Tree, leaf int, u api.Update) api.Tree {
	out := api.Tree{Deep: t.Deep, Nodes: slices.Clone(t.Nodes)}
	for _, s := range spot.Path(leaf, t.Deep) {
		out.Nodes[spot.Index(s)] = api.Node{}
	}
	for i, p := range filtered(t, leaf) {
		out.Nodes[p.number()] = api.Node{Kind: api.IsNode, Ek: slices.Clone(u.Steps[i].Ek)}
	}
	out.Nodes[2*leaf].Ek = slices.Clone(u.Ek)
	for number, sum := range sumsAbove(out, leaf) {
		out.Nodes[number].Above = sum
	}
	return out
}

// sumsAbove tells the number of each spot of the filtered path, from the top down, and then the leaf's, with its sum above. That is made of what stands at the spot told ahead of it only when it is asked for: an Above that is put there meanwhile counts.
func sumsAbove(t api.Tree, leaf int) iter.Seq2[int, []byte] {
	sumAt := func(p place) []byte {
		n := t.Nodes[p.number()]
		return sha2.Sum(slices.Concat(text(n.Ek), text(n.Above), rtree.Sum(t, p.beside)))
	}
	return func(yield func(number int, sum []byte) bool) {
		var sum []byte
		for _, p := range slices.Backward(filtered(t, leaf)) {
			if !yield(p.number(), sum) {
				return
			}
			sum = sumAt(p)
		}
		yield(2*leaf, sum)
	}
}

// text is wire's, of what a right node has: none is too long.
func text(s []byte) []byte {
	out, _ := wire.Text(s)
	return out
}
