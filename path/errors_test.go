package path_test

import (
	"testing"

	"sodality/api"
	"sodality/path"
	"sodality/trial"
)

// wantRefused ends a test if a call answers something of a tree or a leaf that may not be, but for that error: whatever else it is handed.
func wantRefused(t *testing.T, what string, tree api.Tree, leaf int, by made, want api.Errno) {
	t.Helper()
	wantSpots(t, what+", Filter", path.Filter(tree, leaf), nil)
	wantRight(t, what, tree, leaf, false)
	good := making{tree, leaf, nil, make([]byte, 32), nil}
	wantNotMade(t, what, good, want)
	wantNotMade(t, what+", and a wrong seed", making{tree, leaf, []int{0}, nil, nil}, want)
	wantNotMade(t, what+", and an info too long", making{tree, leaf, nil, make([]byte, 32), make([]byte, maxInfo+1)}, want)
	for _, u := range []api.Update{by.u, {}} {
		wantNotLaid(t, what, tree, leaf, u, want)
		wantNotTaken(t, what, good.taken(u, own(5), own(0)), want)
		wantNotTaken(t, what+", and an info too long", taking{tree, leaf, nil, u, make([]byte, maxInfo+1), nil}, want)
	}
}

// P15.1: trees that are not right, with leaves that are there and such as are not.
func TestTreesThatAreNotRight(t *testing.T) {
	by := wantMade(t, richMaking())
	for _, x := range trial.WrongTrees() {
		for _, leaf := range []int{-1, 0, 1, 2, 3, 64} {
			wantRefused(t, x.Name, x.Tree, leaf, by, api.ErrTree)
		}
	}
}

// P15.1: leaves that are blank, or in no tree, or in a deeper one alone.
func TestLeavesThatAreNotThere(t *testing.T) {
	by := wantMade(t, richMaking())
	for _, tree := range keyedTrees() {
		many := trial.ManyOf(tree.Deep)
		for _, leaf := range append(trial.NoLeaves(), many, many+1, 2*many-1, 2*many, -many) {
			if leaf < 0 || leaf >= many {
				wantRefused(t, "no leaf", tree, leaf, by, api.ErrLeaf)
			}
		}
		for leaf := range many {
			if tree.Nodes[2*leaf].Kind == api.Blank {
				wantRefused(t, "a blank leaf", tree, leaf, by, api.ErrLeaf)
			}
		}
	}
}

// P2: of several errors the one that is named first.
func TestSeveralErrors(t *testing.T) {
	m := richMaking()
	by := wantMade(t, m)
	noKey := m
	noKey.tree = withNode(m.tree, 2, func(n *api.Node) { n.Ek = tooGreat(n.Ek, 0) })
	wantNotMade(t, "a key that is none", noKey, api.ErrKey)
	noKey.seed = nil
	wantNotMade(t, "a wrong seed, and a key that is none", noKey, api.ErrArg)
	noKey.seed, noKey.info = m.seed, make([]byte, maxInfo+1)
	wantNotMade(t, "an info too long, and a key that is none", noKey, api.ErrArg)

	long := m
	long.info = make([]byte, maxInfo+1)
	few := withUpdate(by.u, func(u *api.Update) { u.Steps[1].Boxes = u.Steps[1].Boxes[:1] })
	none := withUpdate(by.u, func(u *api.Update) {
		for _, s := range u.Steps {
			clear(s.Boxes)
		}
	})
	other := withUpdate(by.u, func(u *api.Update) { u.Steps[2].Ek = pairs()[90].ek })
	for _, u := range []api.Update{{}, by.u, few, none, other} {
		wantNotTaken(t, "an info too long, and more", long.taken(u), api.ErrArg)
	}
	bad := api.Own{Node: 5, Dk: nil}
	for _, mine := range [][]api.Own{nil, {own(3)}, {bad}, {own(6)}} {
		wantNotTaken(t, "no path, and more", m.taken(api.Update{}, mine...), api.ErrPath)
		wantNotTaken(t, "a box too few, and more", m.taken(few, mine...), api.ErrPath)
	}
	wantNotTaken(t, "nobody is told, and no box is one", m.taken(none, own(3)), api.ErrMine)
	wantNotTaken(t, "nobody is told, and another Ek", m.taken(other), api.ErrMine)
	wantNotTaken(t, "a box too short, and no key", m.taken(none, bad), api.ErrTag)
	spoilt := withUpdate(other, func(u *api.Update) { u.Steps[1].Boxes[0][1151] ^= 1 })
	wantNotTaken(t, "no key, a spoilt box, and another Ek", m.taken(spoilt, bad), api.ErrKey)
	wantNotTaken(t, "a spoilt box, and another Ek", m.taken(spoilt, own(5)), api.ErrTag)
	wantNotTaken(t, "another Ek", m.taken(spoilt, own(6)), api.ErrPath)
}
