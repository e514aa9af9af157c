package path_test

import (
	"slices"

	"sodality/api"
	"sodality/trial"
)

// rich has all that a path meets. The leaf 0 tells at 1 the leaf 1; at 2 the node 5, and the leaf 3, which does not know that; at 3 the leaves 4 and 5, the node 13, and the leaf 7.
func rich() api.Tree {
	t := trial.FullTree(3)
	t.Nodes[1], t.Nodes[3], t.Nodes[5], t.Nodes[13] = trial.NodeOf(1, 1), trial.NodeOf(3, 0, 3), trial.NodeOf(5, 3), trial.NodeOf(13, 7)
	return keyed(t)
}

// richMaking is of the leaf 0 of rich.
func richMaking() making { return making{rich(), 0, nil, trial.Ordinary(32, 1), []byte("info")} }

// keyedTrees are trees of all kinds, some of all that are not deep among them, for which boxes can be made.
func keyedTrees() []api.Tree {
	trees := append(trial.Trees(), trial.AllTrees(1)...)
	for i, tree := range trial.AllTrees(2) {
		if i%29 == 0 {
			trees = append(trees, tree)
		}
	}
	for i, tree := range trees {
		trees[i] = keyed(tree)
	}
	return append(trees, rich())
}

// some are all numbers, or of many the first, one in the midst and the last.
func some(all []int) []int {
	if len(all) <= 4 {
		return all
	}
	return []int{all[0], all[len(all)/2], all[len(all)-1]}
}

// withNode has another node of that number.
func withNode(tree api.Tree, number int, change func(n *api.Node)) api.Tree {
	out := trial.CopiedTree(tree)
	change(&out.Nodes[number])
	return out
}

// copiedUpdate shares no memory with the update.
func copiedUpdate(u api.Update) api.Update {
	out := api.Update{Ek: slices.Clone(u.Ek), Steps: slices.Clone(u.Steps)}
	for i, s := range out.Steps {
		out.Steps[i] = api.Step{Ek: slices.Clone(s.Ek), Boxes: slices.Clone(s.Boxes)}
		for at, b := range s.Boxes {
			out.Steps[i].Boxes[at] = slices.Clone(b)
		}
	}
	return out
}

// withUpdate is a copy with something else in it.
func withUpdate(u api.Update, change func(u *api.Update)) api.Update {
	out := copiedUpdate(u)
	change(&out)
	return out
}

// wrongKeys to close with: too short, too long, or with a number too great.
func wrongKeys() [][]byte {
	ek := pairs()[100].ek
	return [][]byte{
		nil, {}, ek[:1], ek[:ekBytes-1], ek[1:], ek[:ekBytes-32], trial.Joined(ek, []byte{0}), trial.Joined(ek, ek),
		tooGreat(ek, 0), tooGreat(ek, 600), tooGreat(ek, ekBytes-35), make([]byte, 2400), slices.Repeat([]byte{255}, ekBytes),
	}
}

// tooGreat has a number of 12 bits above the modulus: at one of the places that are three times a number.
func tooGreat(ek []byte, at int) []byte {
	out := slices.Clone(ek)
	out[at], out[at+1] = 1, out[at+1]|13
	return out
}
