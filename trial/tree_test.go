package trial_test

import (
	"testing"

	"sodality/api"
	"sodality/trial"
)

func someTree() api.Tree {
	return api.Tree{Deep: 1, Nodes: []api.Node{
		{Kind: 1, Ek: []byte{1, 2}, Vk: []byte{3}, Name: []byte{4}, Above: []byte{5}}, {Kind: 2, Ek: []byte{6}, Unmerged: []int{0, 1}}, {},
	}}
}

// changes are of each thing that a tree has.
func changes() map[string]func(t *api.Tree) {
	return map[string]func(t *api.Tree){
		"Deep":               func(t *api.Tree) { t.Deep++ },
		"Nodes":              func(t *api.Tree) { t.Nodes = t.Nodes[:2] },
		"a Kind":             func(t *api.Tree) { t.Nodes[2].Kind = 1 },
		"a byte of an Ek":    func(t *api.Tree) { t.Nodes[0].Ek[1]++ },
		"an Ek":              func(t *api.Tree) { t.Nodes[1].Ek = nil },
		"a byte of a Vk":     func(t *api.Tree) { t.Nodes[0].Vk[0]++ },
		"a byte of a Name":   func(t *api.Tree) { t.Nodes[0].Name[0]++ },
		"a byte of an Above": func(t *api.Tree) { t.Nodes[0].Above[0]++ },
		"an Unmerged leaf":   func(t *api.Tree) { t.Nodes[1].Unmerged[1]++ },
		"Unmerged leaves":    func(t *api.Tree) { t.Nodes[1].Unmerged = t.Nodes[1].Unmerged[:1] },
	}
}

func TestTreesAreToldApart(t *testing.T) {
	differs := func(got, want api.Tree) bool {
		return found(func(h trial.T) { trial.WantTree(h, "", got, want) })
	}
	if differs(someTree(), someTree()) {
		t.Error("alike ones are not")
	}
	empty := someTree()
	empty.Nodes[2] = api.Node{Ek: []byte{}, Unmerged: []int{}}
	if differs(empty, someTree()) {
		t.Error("an empty list is not nil's like")
	}
	for name, change := range changes() {
		other := someTree()
		change(&other)
		if !differs(other, someTree()) || !differs(someTree(), other) {
			t.Errorf("%s: no fault is found", name)
		}
	}
}

func TestCopiesShareNothing(t *testing.T) {
	for name, change := range changes() {
		first := someTree()
		other := trial.CopiedTree(first)
		change(&other)
		if found(func(h trial.T) { trial.WantTree(h, "", first, someTree()) }) {
			t.Errorf("%s: changed with the copy's", name)
		}
	}
}

func TestLentTrees(t *testing.T) {
	changed := func(change func(t *api.Tree)) bool {
		lent := trial.LendTree(someTree())
		handed := lent.Tree
		change(&handed)
		return found(func(h trial.T) { lent.WantSame(h, "") })
	}
	if changed(func(t *api.Tree) { t.Deep, t.Nodes = 0, t.Nodes[:1] }) {
		t.Error("what was handed in is changed by what is done to a copy")
	}
	for name, change := range changes() {
		if name != "Deep" && name != "Nodes" && !changed(change) {
			t.Errorf("%s: no fault is found", name)
		}
	}
	for name, change := range map[string]func(t *api.Tree){
		"nodes":           func(t *api.Tree) { _ = append(t.Nodes, api.Node{}) },
		"a text":          func(t *api.Tree) { _ = append(t.Nodes[0].Name, 1) },
		"an empty text":   func(t *api.Tree) { _ = append(t.Nodes[2].Ek, 1) },
		"numbers":         func(t *api.Tree) { _ = append(t.Nodes[1].Unmerged, 1) },
		"no numbers":      func(t *api.Tree) { _ = append(t.Nodes[0].Unmerged, 1) },
		"the last number": func(t *api.Tree) { t.Nodes[1].Unmerged[:3][2]++ },
	} {
		if !changed(change) {
			t.Errorf("spare room of %s: no fault is found", name)
		}
	}
	lent := trial.LendTree(someTree())
	if found(func(h trial.T) { trial.WantTree(h, "", lent.Tree, someTree()) }) {
		t.Error("another tree is lent")
	}
}
