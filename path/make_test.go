package path_test

import (
	"bytes"
	"math"
	"testing"

	"sodality/api"
	"sodality/rtree"
	"sodality/trial"
)

// wantThereAndBack ends a test if a path is not made as in the other way, or not taken: by those that are told, each with the key of that node alone, and by other leaves with all the keys that they have.
func wantThereAndBack(t *testing.T, m making, some func(all []int) []int) {
	t.Helper()
	by := wantMade(t, m)
	for _, s := range plainWay(m.tree, m.leaf) {
		for _, number := range some(plainTold(m.tree, s, nil)) {
			wantTaken(t, "with a key of who is told", m.taken(by.u, own(number)), by)
		}
	}
	for _, other := range some(trial.Whole(m.tree.Deep).There(m.tree)) {
		if other != m.leaf {
			wantTaken(t, "with all that a leaf has", m.taken(by.u, ownOf(m.tree, other)...), by)
		}
	}
	wantNotTaken(t, "by its maker, with what it had", m.taken(by.u, ownOf(m.tree, m.leaf)...), api.ErrMine)
}

// P15.1 (U1, U2, U3), P15.2, P15.3: each leaf of a tree that has all, by each that is told and each other leaf.
func TestThereAndBackOfEach(t *testing.T) {
	all := func(all []int) []int { return all }
	for _, tree := range []api.Tree{rich(), keyed(trial.BaseTree()), keyed(trial.FullTree(1)), keyed(trial.FullTree(2))} {
		for _, leaf := range rtree.Leaves(tree) {
			wantThereAndBack(t, making{tree, leaf, nil, trial.Ordinary(32, leaf), []byte("info")}, all)
		}
	}
}

// P15.1 (U1, U2, U3), P15.2, P15.3: trees of all kinds.
func TestThereAndBack(t *testing.T) {
	for which, tree := range keyedTrees() {
		for _, leaf := range some(rtree.Leaves(tree)) {
			wantThereAndBack(t, making{tree, leaf, nil, trial.Ordinary(32, which), trial.Ordinary(which%3, which)}, some)
		}
	}
}

// P15.2: what was made stands: the next ones are made and taken on, by keys that paths ahead gave, leaf by leaf.
func TestOneBehindTheOther(t *testing.T) {
	for _, deep := range []int{1, 2, 3} {
		tree := keyed(trial.FullTree(deep))
		keys := map[int][]api.Own{}
		for leaf := range trial.ManyOf(deep) {
			keys[leaf] = ownOf(tree, leaf)
		}
		for turn := range 2 * trial.ManyOf(deep) {
			m := making{tree, 5 * turn % trial.ManyOf(deep), nil, trial.Ordinary(32, turn), nil}
			by := wantMade(t, m)
			for leaf := range keys {
				if leaf == m.leaf {
					keys[leaf] = by.own
					continue
				}
				x := m.taken(by.u, keys[leaf]...)
				wantTaken(t, "one behind the other", x, by)
				got, _ := x.take()
				wantRight(t, "behind Take", got.tree, m.leaf, true)
				keys[leaf] = got.own
			}
			tree = by.tree
		}
		trial.WantNumber(t, "how many keys a leaf has", len(keys[1]), deep+1)
	}
}

// P15.1 (U2): who is told, by hand.
func TestBoxesByHand(t *testing.T) {
	all := []int{0, 1, 2, 3, 4, 5, 6, 7}
	for _, x := range []struct {
		name string
		skip []int
		want [3][]int
	}{
		{"none", nil, [3][]int{{2}, {5, 6}, {8, 10, 13, 14}}},
		{"none that is not nil", []int{}, [3][]int{{2}, {5, 6}, {8, 10, 13, 14}}},
		{"one", []int{1}, [3][]int{nil, {5, 6}, {8, 10, 13, 14}}},
		{"one that a node does not know", []int{3}, [3][]int{{2}, {5}, {8, 10, 13, 14}}},
		{"one that a node knows", []int{6}, [3][]int{{2}, {5, 6}, {8, 10, 13, 14}}},
		{"the maker", []int{0}, [3][]int{{2}, {5, 6}, {8, 10, 13, 14}}},
		{"some, in no order", []int{7, 1, 4}, [3][]int{nil, {5, 6}, {10, 13}}},
		{"one twice", []int{3, 3}, [3][]int{{2}, {5}, {8, 10, 13, 14}}},
		{"all", all, [3][]int{nil, {5}, {13}}},
		{"all twice", append(all, all...), [3][]int{nil, {5}, {13}}},
		{"no leaves", []int{-1, -3, 8, 64, 1 << 32, 1<<32 + 3, 1<<62 + 3, math.MinInt, math.MinInt + 3, math.MinInt + 1, math.MaxInt}, [3][]int{{2}, {5, 6}, {8, 10, 13, 14}}},
		{"numbers of nodes", []int{2, 5, 6, 8, 10, 13, 14}, [3][]int{{2}, {5, 6}, {8, 13, 14}}},
	} {
		m := richMaking()
		m.skip = x.skip
		by := wantMade(t, m)
		trial.WantNumber(t, x.name+": steps", len(by.u.Steps), 3)
		for i, s := range by.u.Steps {
			trial.WantNumber(t, x.name+": boxes of a step", len(s.Boxes), len(x.want[i]))
			for at, number := range x.want[i] {
				trial.WantNumber(t, "the bytes of a box", len(s.Boxes[at]), 1152)
				wantTaken(t, x.name, m.taken(by.u, own(number)), by)
			}
		}
	}
}

// P15.1 (U2, U3): who is in skip is told no longer, if it is no node that is told; who takes must skip as its maker did.
func TestSkipped(t *testing.T) {
	m := richMaking()
	m.skip = []int{3, 4}
	by := wantMade(t, m)
	for _, number := range []int{6, 8} {
		wantNotTaken(t, "by one who is skipped", m.taken(by.u, own(number)), api.ErrMine)
	}
	wantTaken(t, "by one who is skipped, with a key of a node that is told", m.taken(by.u, own(6), own(5)), by)
	for _, skip := range [][]int{nil, {3}, {4}, {3, 4, 5}, {1, 3, 4}, {3, 7, 4}} {
		x := m.taken(by.u, own(5))
		x.skip = skip
		wantNotTaken(t, "with others skipped", x, api.ErrPath)
	}
	for _, skip := range [][]int{{4, 3}, {3, 4, 4, 3, 3}, {3, 4, 0}, {3, 2, 4, 6}, {-5, 3, 1 << 40, 4, math.MinInt + 1}} {
		x := m.taken(by.u, own(5))
		x.skip = skip
		wantTaken(t, "with the same ones skipped, told otherwise", x, by)
	}
}

// P15.1 (U2, U3): as many boxes as before, but another one is skipped: the box is for another node, and is not opened.
func TestAnotherOneSkipped(t *testing.T) {
	m := richMaking()
	m.skip = []int{4}
	by := wantMade(t, m)
	x := m.taken(by.u, own(8))
	x.skip = []int{5}
	wantNotTaken(t, "another one skipped", x, api.ErrTag)
	x.mine = []api.Own{own(13)}
	wantTaken(t, "another one skipped, behind whom all is the same", x, by)
}

// P15.1 (U2): each skipped leaf of trees of all kinds.
func TestSkipEach(t *testing.T) {
	for which, tree := range keyedTrees() {
		there := trial.Whole(tree.Deep).There(tree)
		if len(there) < 2 || len(there) > 9 {
			continue
		}
		leaf := there[which%len(there)]
		m := making{tree, leaf, there[:which%len(there)], trial.Ordinary(32, which), nil}
		by := wantMade(t, m)
		for _, other := range there {
			if other != leaf {
				wantTold(t, "with some skipped", m.taken(by.u, ownOf(tree, other)...))
			}
		}
	}
}

// P15.1 (U2): a seed has 32 bytes, whatever they are; others make another path.
func TestSeeds(t *testing.T) {
	m := richMaking()
	commits := map[string]bool{}
	for _, seed := range trial.Seeds(32, 4) {
		m.seed = seed
		commits[string(wantMade(t, m).commit)] = true
	}
	trial.WantNumber(t, "unlike secrets", len(commits), 6)
	for _, n := range append(trial.Around(32), 0, 1, 16, 31, 33, 64, 1<<20) {
		m.seed = make([]byte, n)
		wantNotMade(t, "a seed of another length", m, api.ErrArg)
	}
	m.seed = nil
	wantNotMade(t, "no seed", m, api.ErrArg)
}

// P15.1 (U2, U3): an info has up to 10000 bytes; another one makes other boxes, and nothing else.
func TestInfos(t *testing.T) {
	m := richMaking()
	first := wantMade(t, m)
	for _, info := range [][]byte{nil, {}, {0}, {1}, trial.Ordinary(100, 1), make([]byte, maxInfo-1), make([]byte, maxInfo), trial.Ordinary(maxInfo, 2)} {
		m.info = info
		by := wantMade(t, m)
		wantTaken(t, "with the same info", m.taken(by.u, own(5)), by)
		if bytes.Equal(by.u.Steps[0].Boxes[0], first.u.Steps[0].Boxes[0]) {
			t.Error("of another info: the same box")
		}
		trial.WantTree(t, "of another info, the tree", by.tree, first.tree)
		trial.WantBytes(t, "of another info, the secret", by.commit, first.commit)
		wantOwn(t, "of another info", by.own, first.own)
	}
	for _, n := range []int{maxInfo + 1, maxInfo + 2, 2 * maxInfo, 16000, 16001, 1 << 20} {
		m.info = make([]byte, n)
		wantNotMade(t, "an info too long", m, api.ErrArg)
		wantNotTaken(t, "an info too long", m.taken(first.u, own(5)), api.ErrArg)
	}
}

// P15.1 (U2): a box has an error, if the key of one who is told is not right; nobody else's key counts.
func TestKeysOfWhoIsTold(t *testing.T) {
	told := []int{2, 5, 6, 8, 10, 13, 14}
	for number := range rich().Nodes {
		m := richMaking()
		if m.tree.Nodes[number].Kind == api.Blank {
			continue
		}
		isTold := false
		for _, other := range told {
			isTold = isTold || other == number
		}
		for _, at := range []int{0, 600, ekBytes - 35} {
			m.tree = withNode(rich(), number, func(n *api.Node) { n.Ek = tooGreat(n.Ek, at) })
			if isTold {
				wantNotMade(t, "a key of one who is told", m, api.ErrKey)
			} else {
				wantMade(t, m)
			}
			m.skip = []int{1, 3, 4, 5, 7}
			if isTold && number%2 == 1 {
				wantNotMade(t, "a key of a node", m, api.ErrKey)
			} else {
				wantMade(t, m)
			}
			m.skip = nil
		}
	}
}

// P15.1 (U2), P15.3: leaves that nobody is beside: nothing is told, and there is a secret all the same.
func TestNobodyBeside(t *testing.T) {
	for _, deep := range trial.Deeps() {
		for _, leaf := range []int{0, trial.ManyOf(deep) - 1} {
			tree := keyed(trial.TreeOf(deep, leaf))
			m := making{tree, leaf, nil, trial.Ordinary(32, deep), nil}
			by := wantMade(t, m)
			trial.WantNumber(t, "steps", len(by.u.Steps), 0)
			trial.WantNumber(t, "keys", len(by.own), 1)
			trial.WantBytes(t, "the secret", by.commit, plainLabel(m.seed, "path", nil))
			trial.WantBytes(t, "the leaf's Above", by.tree.Nodes[2*leaf].Above, nil)
			for number := range tree.Nodes {
				wantNotTaken(t, "where nobody is told", m.taken(by.u, own(number)), api.ErrMine)
			}
		}
	}
}
