package path_test

import (
	"bytes"
	"slices"
	"sync"
	"testing"

	"sodality/api"
	"sodality/mlkem"
	"sodality/path"
	"sodality/rtree"
	"sodality/trial"
)

// pair is both of mlkem's keys.
type pair struct{ ek, dk []byte }

// pairs are keys of nodes by their numbers, in the deepest tree and in those that are less deep: made once, as there are many trees.
var pairs = sync.OnceValue(func() []pair {
	var out []pair
	for number := range 127 {
		ek, dk, _ := mlkem.Keys(bytes.Repeat([]byte{byte(number)}, 32), bytes.Repeat([]byte{byte(128 + number)}, 32))
		out = append(out, pair{ek, dk})
	}
	return out
})

// keyed has in each node that is not blank the key of its number.
func keyed(tree api.Tree) api.Tree {
	out := trial.CopiedTree(tree)
	for number := range out.Nodes {
		if out.Nodes[number].Kind != api.Blank {
			out.Nodes[number].Ek = slices.Clone(pairs()[number].ek)
		}
	}
	return out
}

func own(number int) api.Own { return api.Own{Node: number, Dk: slices.Clone(pairs()[number].dk)} }

// ownOf are the keys that a leaf has: those of nodes above it that it knows, from the top down, and its own.
func ownOf(tree api.Tree, leaf int) []api.Own {
	var out []api.Own
	for _, p := range trial.PartsOf(tree.Deep) {
		n := tree.Nodes[p.Number()]
		if p.Has(leaf) && n.Kind != api.Blank && !slices.Contains(n.Unmerged, leaf) {
			out = append(out, own(p.Number()))
		}
	}
	return out
}

// making and taking are what Make and Take are handed.
type making struct {
	tree       api.Tree
	leaf       int
	skip       []int
	seed, info []byte
}

type taking struct {
	tree api.Tree
	leaf int
	skip []int
	u    api.Update
	info []byte
	mine []api.Own
}

func (m making) make() (made, api.Errno) {
	tree, u, own, commit, err := path.Make(m.tree, m.leaf, m.skip, m.seed, m.info)
	return made{tree, u, own, commit}, err
}

func (x taking) take() (made, api.Errno) {
	tree, own, commit, err := path.Take(x.tree, x.leaf, x.skip, x.u, x.info, x.mine)
	return made{tree, api.Update{}, own, commit}, err
}

// taken is a taking of what was made, by who has those keys.
func (m making) taken(u api.Update, mine ...api.Own) taking {
	return taking{m.tree, m.leaf, m.skip, u, m.info, mine}
}

func wantSpots(t *testing.T, what string, got, want []complex128) {
	t.Helper()
	if !slices.Equal(got, want) {
		t.Fatalf("%s: got %v, want %v", what, got, want)
	}
}

func wantRight(t *testing.T, what string, tree api.Tree, leaf int, want bool) {
	t.Helper()
	if got := path.Right(tree, leaf); got != want {
		t.Fatalf("%s: Right of the leaf %d is %v", what, leaf, got)
	}
}

func wantUpdate(t *testing.T, what string, got, want api.Update) {
	t.Helper()
	trial.WantBytes(t, what+", the leaf's Ek", got.Ek, want.Ek)
	trial.WantNumber(t, what+", how many Steps", len(got.Steps), len(want.Steps))
	for i, s := range got.Steps {
		trial.WantBytes(t, what+", a step's Ek", s.Ek, want.Steps[i].Ek)
		trial.WantNumber(t, what+", how many Boxes", len(s.Boxes), len(want.Steps[i].Boxes))
		for at, b := range s.Boxes {
			trial.WantBytes(t, what+", a box", b, want.Steps[i].Boxes[at])
		}
	}
}

func wantOwn(t *testing.T, what string, got, want []api.Own) {
	t.Helper()
	trial.WantNumber(t, what+", how many keys to open with", len(got), len(want))
	for i, own := range got {
		trial.WantNumber(t, what+", the Node of one's key", own.Node, want[i].Node)
		trial.WantBytes(t, what+", one's key", own.Dk, want[i].Dk)
	}
}

func wantSame(t *testing.T, what string, got, want made) {
	t.Helper()
	trial.WantTree(t, what, got.tree, want.tree)
	wantUpdate(t, what, got.u, want.u)
	wantOwn(t, what, got.own, want.own)
	trial.WantBytes(t, what+", the commit's secret", got.commit, want.commit)
}

// wantNothing ends a test that got another error, or something beside it.
func wantNothing(t *testing.T, what string, got made, err, want api.Errno) {
	t.Helper()
	trial.WantErr(t, what, err, want)
	wantSame(t, what+", beside the error", got, made{})
}

// wantLaid ends a test if a tree with a path is another one than in the other way, or not right.
func wantLaid(t *testing.T, tree api.Tree, leaf int, u api.Update) api.Tree {
	t.Helper()
	got, err := path.Lay(tree, leaf, u)
	trial.WantErr(t, "Lay", err, api.OK)
	trial.WantTree(t, "Lay", got, plainLaid(tree, leaf, u))
	wantRight(t, "behind Lay", got, leaf, true)
	if !rtree.Right(got) {
		t.Fatal("behind Lay: the tree is not right")
	}
	return got
}

func wantNotLaid(t *testing.T, what string, tree api.Tree, leaf int, u api.Update, want api.Errno) {
	t.Helper()
	got, err := path.Lay(tree, leaf, u)
	wantNothing(t, "Lay, "+what, made{tree: got}, err, want)
}

// wantMade ends a test if a path is made otherwise than in the other way, or is laid as another one.
func wantMade(t *testing.T, m making) made {
	t.Helper()
	got, err := m.make()
	trial.WantErr(t, "Make", err, api.OK)
	wantSame(t, "Make", got, plainMake(t, m))
	wantRight(t, "behind Make", got.tree, m.leaf, true)
	trial.WantTree(t, "Lay of what is made", wantLaid(t, m.tree, m.leaf, got.u), got.tree)
	return got
}

func wantNotMade(t *testing.T, what string, m making, want api.Errno) {
	t.Helper()
	got, err := m.make()
	wantNothing(t, "Make, "+what, got, err, want)
}

// wantTold ends a test if a path is taken otherwise than in the other way; it answers what was taken, and the error.
func wantTold(t *testing.T, what string, x taking) (made, api.Errno) {
	t.Helper()
	got, err := x.take()
	want, wantErr := plainTake(t, x)
	trial.WantErr(t, "Take, "+what, err, wantErr)
	wantSame(t, "Take, "+what, got, want)
	return got, err
}

// wantTaken ends a test if who takes a path has another tree or secret than its maker has, or other keys than in the other way.
func wantTaken(t *testing.T, what string, x taking, by made) {
	t.Helper()
	got, err := wantTold(t, what, x)
	trial.WantErr(t, what, err, api.OK)
	trial.WantTree(t, "the taker's tree, "+what, got.tree, by.tree)
	trial.WantBytes(t, "the taker's secret, "+what, got.commit, by.commit)
}

func wantNotTaken(t *testing.T, what string, x taking, want api.Errno) {
	t.Helper()
	got, err := x.take()
	wantNothing(t, "Take, "+what, got, err, want)
}
