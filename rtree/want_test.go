package rtree_test

import (
	"crypto/sha256"
	"math"
	"testing"

	"sodality/api"
	"sodality/rtree"
	"sodality/trial"
)

func wantRight(t *testing.T, what string, tree api.Tree, want bool) {
	t.Helper()
	if got := rtree.Right(tree); got != want {
		t.Fatalf("%s: Right is %v", what, got)
	}
}

// wantNone ends a test that got an error and a tree, or another error.
func wantNone(t *testing.T, what string, tree api.Tree, got, want api.Errno) {
	t.Helper()
	trial.WantErr(t, what, got, want)
	if tree.Deep != 0 || len(tree.Nodes) != 0 {
		t.Fatalf("%s: beside the error, a tree so deep as %d, of %d nodes", what, tree.Deep, len(tree.Nodes))
	}
}

// wantMade ends a test whose call made another tree, or one that is not right.
func wantMade(t *testing.T, what string, got api.Tree, err api.Errno, want api.Tree) {
	t.Helper()
	trial.WantErr(t, what, err, api.OK)
	trial.WantTree(t, what, got, want)
	wantRight(t, what, got, true)
}

// wantAdded, wantRenewed and wantRemoved hold an answer against what is told in another way, and hand it on.
func wantAdded(t *testing.T, tree api.Tree, leaf api.Node) (api.Tree, int) {
	t.Helper()
	want, place := plainAdd(tree, leaf)
	got, i, err := rtree.Add(tree, leaf)
	wantMade(t, "Add", got, err, want)
	trial.WantNumber(t, "the leaf that is added", i, place)
	return got, i
}

func wantRenewed(t *testing.T, tree api.Tree, i int, leaf api.Node) api.Tree {
	t.Helper()
	got, err := rtree.Renew(tree, i, leaf)
	wantMade(t, "Renew", got, err, plainReplaced(tree, i, leaf))
	return got
}

func wantRemoved(t *testing.T, tree api.Tree, i int) api.Tree {
	t.Helper()
	got, err := rtree.Remove(tree, i)
	wantMade(t, "Remove", got, err, plainCut(plainReplaced(tree, i, api.Node{})))
	return got
}

// wantNotAdded, wantNotRenewed and wantNotRemoved end a test that got no error, or another one.
func wantNotAdded(t *testing.T, what string, tree api.Tree, leaf api.Node, want api.Errno) {
	t.Helper()
	got, i, err := rtree.Add(tree, leaf)
	wantNone(t, what+": Add", got, err, want)
	trial.WantNumber(t, what+": beside the error of Add", i, 0)
}

func wantNotRenewed(t *testing.T, what string, tree api.Tree, i int, leaf api.Node, want api.Errno) {
	t.Helper()
	got, err := rtree.Renew(tree, i, leaf)
	wantNone(t, what+": Renew", got, err, want)
}

func wantNotRemoved(t *testing.T, what string, tree api.Tree, i int, want api.Errno) {
	t.Helper()
	got, err := rtree.Remove(tree, i)
	wantNone(t, what+": Remove", got, err, want)
}

func wantNotGot(t *testing.T, what string, b []byte, want api.Errno) {
	t.Helper()
	got, err := rtree.Get(b)
	wantNone(t, what+": Get", got, err, want)
}

// wantTold ends a test if a right tree is not told as in the other way: that it is right, its leaves, resolutions, sums and bytes.
func wantTold(t *testing.T, tree api.Tree) {
	t.Helper()
	wantRight(t, "a right tree", tree, true)
	trial.WantNumbers(t, "Leaves", rtree.Leaves(tree), trial.Whole(tree.Deep).There(tree))
	sums := trial.SumsOf(tree, sha256.Sum256)
	for _, p := range trial.PartsOf(tree.Deep) {
		trial.WantNumbers(t, "Resolve", rtree.Resolve(tree, p.Spot()), p.Resolve(tree))
		trial.WantBytes(t, "Sum", rtree.Sum(tree, p.Spot()), sums[p.Number()])
	}
	wantThereAndBack(t, tree)
}

func wantThereAndBack(t *testing.T, tree api.Tree) {
	t.Helper()
	b, err := rtree.Put(tree)
	trial.WantErr(t, "Put", err, api.OK)
	trial.WantBytes(t, "Put", b, plainPut(tree))
	back, err := rtree.Get(b)
	wantMade(t, "Get of Put", back, err, tree)
	again, err := rtree.Put(back)
	trial.WantErr(t, "Put of Get", err, api.OK)
	trial.WantBytes(t, "Put of Get", again, b)
}

// wantNoTree ends a test if a call answers something else of a tree that is not right, whatever else it is handed.
func wantNoTree(t *testing.T, name string, tree api.Tree) {
	t.Helper()
	wantRight(t, name, tree, false)
	trial.WantNumbers(t, name+": Leaves", rtree.Leaves(tree), nil)
	for _, s := range append(noSpots(), spotsOf(maxTree+1)...) {
		trial.WantNumbers(t, name+": Resolve", rtree.Resolve(tree, s), nil)
		trial.WantBytes(t, name+": Sum", rtree.Sum(tree, s), nil)
	}
	for _, leaf := range []api.Node{trial.LeafOf(1), {}, trial.NodeOf(1)} {
		wantNotAdded(t, name, tree, leaf, api.ErrTree)
		for _, i := range append(trial.NoLeaves(), 0, 1, 2, 3, 63) {
			wantNotRenewed(t, name, tree, i, leaf, api.ErrTree)
			wantNotRemoved(t, name, tree, i, api.ErrTree)
		}
	}
	b, err := rtree.Put(tree)
	trial.WantErr(t, name+": Put", err, api.ErrTree)
	trial.WantBytes(t, name+": Put", b, nil)
}

func spotsOf(deep int) []complex128 {
	var out []complex128
	for _, p := range trial.PartsOf(deep) {
		out = append(out, p.Spot())
	}
	return out
}

// noSpots are in no tree.
func noSpots() []complex128 {
	inf, nan := math.Inf(1), math.NaN()
	out := []complex128{-1, -1i, -1 - 1i, 17, 1 + 65536i, 65536i, 1 << 40, 1 << 40 * 1i, 0.5, 0.5i, 1.5, 1 + 0.5i, -0.5, 1e-300, 1e-300i, 1e300, 1e300i}
	for _, x := range []float64{inf, -inf, nan} {
		out = append(out, complex(x, 0), complex(0, x), complex(x, x), complex(1, x), complex(x, 1))
	}
	return out
}
