package path_test

import (
	"math"
	"slices"
	"testing"

	"sodality/api"
	"sodality/box"
	"sodality/trial"
)

// unfit are updates that do not fit a path that u fits: none has as many steps, or all of its keys right.
func unfit(u api.Update) map[string]api.Update {
	out := map[string]api.Update{
		"none at all":                 {},
		"a leaf's Ek alone, no steps": withUpdate(u, func(u *api.Update) { u.Steps = u.Steps[:0] }),
		"an empty step too many":      withUpdate(u, func(u *api.Update) { u.Steps = append(u.Steps, api.Step{}) }),
		"steps twice":                 withUpdate(u, func(u *api.Update) { u.Steps = append(u.Steps, u.Steps...) }),
	}
	for i, s := range u.Steps {
		name := string(rune('a' + i))
		out["without the step "+name] = withUpdate(u, func(u *api.Update) { u.Steps = slices.Delete(u.Steps, i, i+1) })
		out["twice the step "+name] = withUpdate(u, func(u *api.Update) { u.Steps = slices.Insert(u.Steps, i, s) })
		for k, ek := range wrongKeys() {
			out["a wrong Ek "+string(rune('a'+k))+" in the step "+name] = withUpdate(u, func(u *api.Update) { u.Steps[i].Ek = ek })
		}
	}
	for k, ek := range wrongKeys() {
		out["a wrong Ek "+string(rune('a'+k))+" in the leaf"] = withUpdate(u, func(u *api.Update) { u.Ek = ek })
	}
	return out
}

// P15.1 (U1, U3): what does not fit is no path, for whoever takes it, and is not laid.
func TestUpdatesThatDoNotFit(t *testing.T) {
	m := richMaking()
	by := wantMade(t, m)
	for name, u := range unfit(by.u) {
		wantNotLaid(t, name, m.tree, m.leaf, u, api.ErrPath)
		for _, mine := range [][]api.Own{nil, {own(2)}, {own(5)}, {own(14)}, ownOf(m.tree, 2), {{Node: 5}}} {
			wantNotTaken(t, name, m.taken(u, mine...), api.ErrPath)
		}
	}
}

// P15.1 (U1, U3): where nothing is beside, an update with a step does not fit; one of another leaf or tree fits, if it has as many.
func TestUpdatesOfOthers(t *testing.T) {
	m := richMaking()
	by := wantMade(t, m)
	alone := keyed(trial.TreeOf(2, 0))
	wantNotLaid(t, "where nothing is beside", alone, 0, by.u, api.ErrPath)
	wantNotTaken(t, "where nothing is beside", taking{alone, 0, nil, by.u, nil, []api.Own{own(0)}}, api.ErrPath)
	none := withUpdate(by.u, func(u *api.Update) { u.Steps = nil })
	wantLaid(t, alone, 0, none)
	wantLaid(t, keyed(trial.TreeOf(0, 0)), 0, none)
	for leaf := range 8 {
		wantLaid(t, m.tree, leaf, by.u)
	}
	for _, x := range []struct {
		leaf, number int
		want         api.Errno
	}{{1, 0, api.ErrTag}, {1, 2, api.ErrMine}, {1, 5, api.OK}, {2, 1, api.ErrTag}, {2, 6, api.ErrTag}, {2, 8, api.OK}, {4, 10, api.ErrPath}, {4, 3, api.ErrPath}} {
		other := m.taken(by.u, own(x.number))
		other.leaf = x.leaf
		_, err := wantTold(t, "as if another leaf had made it", other)
		trial.WantErr(t, "as if another leaf had made it", err, x.want)
	}
}

// P15.1 (U1): Lay looks at no boxes, and lays whatever keys fit.
func TestLayLooksAtNoBoxes(t *testing.T) {
	by := wantMade(t, richMaking())
	for _, boxes := range [][][]byte{nil, {}, {nil}, {{1}, {2}, {3}}, make([][]byte, 100)} {
		u := withUpdate(by.u, func(u *api.Update) {
			for i := range u.Steps {
				u.Steps[i].Boxes = boxes
			}
		})
		trial.WantTree(t, "with other boxes", wantLaid(t, rich(), 0, u), by.tree)
	}
	same := withUpdate(by.u, func(u *api.Update) {
		for i := range u.Steps {
			u.Steps[i].Ek = u.Ek
		}
	})
	wantLaid(t, rich(), 0, same)
}

// P15.1 (U1): told by hand: all of the path is blank, but for the filtered one; nobody is Unmerged there; the leaf has the rest of what it had.
func TestLayByHand(t *testing.T) {
	tree := trial.FullTree(2)
	tree.Nodes[6] = api.Node{}
	tree.Nodes[1], tree.Nodes[3], tree.Nodes[5] = trial.NodeOf(1, 0, 1), trial.NodeOf(3, 2), trial.NodeOf(5, 2)
	ek, other := pairs()[50].ek, pairs()[51].ek
	got := wantLaid(t, tree, 2, api.Update{Ek: ek, Steps: []api.Step{{Ek: other}}})
	trial.WantNode(t, "at a spot beside which nothing is", got.Nodes[5], api.Node{})
	trial.WantNode(t, "at the top", got.Nodes[3], api.Node{Kind: api.IsNode, Ek: other})
	leaf := got.Nodes[4]
	trial.WantNumber(t, "the leaf's Above", len(leaf.Above), 32)
	leaf.Above = nil
	trial.WantNode(t, "the leaf", leaf, api.Node{Kind: api.IsLeaf, Ek: ek, Vk: tree.Nodes[4].Vk, Name: tree.Nodes[4].Name})
	for _, number := range []int{0, 1, 2, 6} {
		trial.WantNode(t, "beside the path", got.Nodes[number], tree.Nodes[number])
	}
}

// P15.1 (U3): a step has as many boxes as are told there.
func TestHowManyBoxes(t *testing.T) {
	m := richMaking()
	by := wantMade(t, m)
	for i, s := range by.u.Steps {
		others := map[string][][]byte{"none": nil, "none that is not nil": {}, "twice as many": append(s.Boxes, s.Boxes...), "an empty one too many": append(slices.Clone(s.Boxes), nil)}
		for at := range s.Boxes {
			others["one too few "+string(rune('a'+at))] = slices.Delete(slices.Clone(s.Boxes), at, at+1)
			others["one too many "+string(rune('a'+at))] = slices.Insert(slices.Clone(s.Boxes), at, s.Boxes[at])
		}
		for name, boxes := range others {
			u := withUpdate(by.u, func(u *api.Update) { u.Steps[i].Boxes = boxes })
			for _, mine := range [][]api.Own{nil, {own(2)}, {own(5)}, {own(14)}} {
				wantNotTaken(t, name, m.taken(u, mine...), api.ErrPath)
			}
		}
	}
}

// P15.1 (U3): another Ek than the secret makes, in each step: whoever knows that secret finds it, and whoever tells only those above it does not. The leaf's is known to none of them.
func TestOtherKeysThanTheSecretMakes(t *testing.T) {
	m := richMaking()
	by := wantMade(t, m)
	first := map[int]int{2: 0, 5: 1, 6: 1, 8: 2, 10: 2, 13: 2, 14: 2}
	for i, s := range by.u.Steps {
		for _, ek := range [][]byte{pairs()[90].ek, by.u.Ek, by.u.Steps[(i+1)%3].Ek, trial.Changed(s.Ek, ekBytes-1, 1), trial.Changed(s.Ek, ekBytes-32, 128)} {
			u := withUpdate(by.u, func(u *api.Update) { u.Steps[i].Ek = ek })
			for number, from := range first {
				x := m.taken(u, own(number))
				if from <= i {
					wantNotTaken(t, "another Ek", x, api.ErrPath)
					continue
				}
				wantTaken(t, "another Ek below", x, made{tree: wantLaid(t, m.tree, m.leaf, u), commit: by.commit})
			}
		}
	}
	u := withUpdate(by.u, func(u *api.Update) { u.Ek = pairs()[91].ek })
	for number := range first {
		wantTaken(t, "another Ek of the leaf", m.taken(u, own(number)), made{tree: wantLaid(t, m.tree, m.leaf, u), commit: by.commit})
	}
}

// P15.1 (U3): a box that is cut, spoilt, or put together otherwise; it counts for nobody else.
func TestSpoiltBoxes(t *testing.T) {
	m := richMaking()
	by := wantMade(t, m)
	for _, x := range []struct{ step, at, number, other int }{{0, 0, 2, 5}, {1, 0, 5, 6}, {1, 1, 6, 5}, {2, 0, 8, 14}, {2, 3, 14, 8}} {
		b := by.u.Steps[x.step].Boxes[x.at]
		spoilt := [][]byte{nil, {}, b[:1], b[:1087], b[:1088], b[:1119], b[:1120], b[:1151], b[1:], trial.Joined(b, []byte{0}), make([]byte, 1152), trial.Joined(b, b), make([]byte, 40000)}
		for _, at := range []int{0, 1, 960, 1087, 1088, 1119, 1120, 1151} {
			spoilt = append(spoilt, trial.Changed(b, at, 1), trial.Changed(b, at, 128))
		}
		for _, other := range spoilt {
			u := withUpdate(by.u, func(u *api.Update) { u.Steps[x.step].Boxes[x.at] = other })
			want := api.ErrTag
			if len(other) == 40000 {
				want = api.ErrTooMany
			}
			wantNotTaken(t, "a spoilt box", m.taken(u, own(x.number)), want)
			wantTaken(t, "a spoilt box of another one", m.taken(u, own(x.other)), by)
		}
	}
}

// P15.1 (U3): a box is for one node, of one info, and at one step.
func TestBoxesOfOthers(t *testing.T) {
	m := richMaking()
	by := wantMade(t, m)
	swapped := withUpdate(by.u, func(u *api.Update) { slices.Reverse(u.Steps[2].Boxes) })
	for _, number := range []int{8, 10, 13, 14} {
		wantNotTaken(t, "a box of another node", m.taken(swapped, own(number)), api.ErrTag)
	}
	wantTaken(t, "below boxes of others", m.taken(swapped, own(6)), by)
	other := m
	other.info = []byte("other")
	for _, number := range []int{2, 5, 6, 8, 10, 13, 14} {
		wantNotTaken(t, "another info", other.taken(by.u, own(number)), api.ErrTag)
		wantNotTaken(t, "a key of another node", m.taken(by.u, api.Own{Node: number, Dk: own(99).Dk}), api.ErrTag)
	}
	same := keyed(rich())
	same.Nodes[6].Ek = same.Nodes[5].Ek
	m.tree = same
	by = wantMade(t, m)
	wantTaken(t, "one key of two nodes", m.taken(by.u, own(5)), by)
	wantTaken(t, "one key of two nodes, for the other one", m.taken(by.u, api.Own{Node: 6, Dk: own(5).Dk}), by)
	slices.Reverse(by.u.Steps[1].Boxes)
	wantNotTaken(t, "a box for the same key, but another node", m.taken(by.u, own(5)), api.ErrTag)
}

// P15.1 (U3): keys of nodes that are not told are of no use.
func TestKeysThatAreOfNoUse(t *testing.T) {
	m := richMaking()
	by := wantMade(t, m)
	var useless []api.Own
	for _, node := range []int{0, 1, 3, 4, 7, 9, 11, 12, -1, -2, 15, 16, 127, 128, 254, 1 << 32, 1<<32 + 2, 1<<62 + 5, math.MinInt, math.MinInt + 2, math.MaxInt} {
		useless = append(useless, api.Own{Node: node, Dk: own(5).Dk})
		wantNotTaken(t, "a key of a node that is not told", m.taken(by.u, useless[len(useless)-1]), api.ErrMine)
	}
	wantNotTaken(t, "all of them", m.taken(by.u, useless...), api.ErrMine)
	wantNotTaken(t, "no keys", m.taken(by.u), api.ErrMine)
	wantNotTaken(t, "no keys, not nil", m.taken(by.u, []api.Own{}...), api.ErrMine)
	wantTaken(t, "one of use behind them", m.taken(by.u, append(useless, own(8))...), by)
	wantTaken(t, "one of use ahead of them", m.taken(by.u, append([]api.Own{own(8)}, useless...)...), by)
}

// P15.1 (U3): a key that is none.
func TestKeysThatAreNone(t *testing.T) {
	m := richMaking()
	by := wantMade(t, m)
	dk := own(5).Dk
	for _, wrong := range [][]byte{nil, {}, dk[:2399], dk[1:], trial.Joined(dk, []byte{0}), trial.Changed(dk, 1200, 1), trial.Changed(dk, 2340, 1), make([]byte, 2400)} {
		wantNotTaken(t, "a key that is none", m.taken(by.u, api.Own{Node: 5, Dk: wrong}), api.ErrKey)
		wantNotTaken(t, "a key that is none, and a right one behind it", m.taken(by.u, api.Own{Node: 5, Dk: wrong}, own(5), own(6)), api.ErrKey)
		wantTaken(t, "one that is none behind a right one", m.taken(by.u, own(5), api.Own{Node: 5, Dk: wrong}), by)
	}
	for at := 2368; at < 2400; at += 31 { // what these bytes are for is told by no right box
		wantTaken(t, "with other bytes at its end", m.taken(by.u, api.Own{Node: 5, Dk: trial.Changed(dk, at, 1)}), by)
	}
}

// P15.1 (U3): the first spot, there the first of those who are told, and of one's keys the first of that node.
func TestWhichKeyIsTaken(t *testing.T) {
	m := richMaking()
	by := wantMade(t, m)
	bad := func(node int) api.Own { return api.Own{Node: node, Dk: own(99).Dk} }
	for _, x := range []struct {
		name string
		mine []api.Own
		want api.Errno
	}{
		{"two of one Node, the first right", []api.Own{own(5), bad(5)}, api.OK},
		{"two of one Node, the first wrong", []api.Own{bad(5), own(5)}, api.ErrTag},
		{"two of one step, the first who is told right", []api.Own{bad(6), own(5)}, api.OK},
		{"two of one step, the first who is told right and first", []api.Own{own(5), bad(6)}, api.OK},
		{"two of one step, the first who is told wrong", []api.Own{own(6), bad(5)}, api.ErrTag},
		{"two of one step, the first who is told wrong and first", []api.Own{bad(5), own(6)}, api.ErrTag},
		{"of two steps, the lower right", []api.Own{bad(8), bad(13), own(6)}, api.OK},
		{"of two steps, the lower wrong", []api.Own{own(8), own(13), bad(6)}, api.ErrTag},
		{"of three steps, the lowest right", []api.Own{bad(8), bad(5), own(2)}, api.OK},
		{"of three steps, the lowest wrong", []api.Own{own(8), own(5), bad(2)}, api.ErrTag},
		{"of the top, from behind", []api.Own{bad(14), bad(13), bad(10), own(8)}, api.OK},
		{"of the top, the second one there", []api.Own{bad(14), bad(13), own(10)}, api.OK},
		{"of the top, the third one wrong", []api.Own{own(14), bad(13)}, api.ErrTag},
	} {
		got, err := wantTold(t, x.name, m.taken(by.u, x.mine...))
		trial.WantErr(t, x.name, err, x.want)
		if err == api.OK {
			trial.WantBytes(t, x.name, got.commit, by.commit)
		}
	}
}

// P15.1 (U3): which of one's keys are kept: all but those of nodes over the leaf; by rising numbers, and of one number as they came.
func TestKeysThatAreKept(t *testing.T) {
	m := richMaking()
	by := wantMade(t, m)
	mark := func(node, which int) api.Own { return api.Own{Node: node, Dk: []byte{byte(which)}} }
	nodes := func(l []api.Own) (out []int) {
		for _, own := range l {
			out = append(out, own.Node)
		}
		return out
	}
	mine := []api.Own{
		mark(127, 1), mark(14, 2), own(5), mark(5, 3), mark(0, 4), mark(15, 5), mark(-1, 6), mark(1, 7), mark(3, 8), mark(7, 9), mark(2000, 10), mark(15, 11), mark(9, 12),
		mark(0, 13), mark(-1, 14), mark(math.MinInt, 15), mark(math.MaxInt, 16), mark(4, 17), mark(9, 18), mark(9, 19), mark(1<<32, 20), mark(11, 21), mark(9, 22),
	}
	x := m.taken(by.u, mine...)
	wantTaken(t, "many keys", x, by)
	got, _ := x.take()
	trial.WantNumbers(t, "the nodes", nodes(got.own), []int{math.MinInt, -1, -1, 3, 4, 5, 5, 7, 9, 9, 9, 9, 11, 14, 15, 15, 127, 2000, 1 << 32, math.MaxInt})
	var order []int
	for _, own := range got.own {
		if len(own.Dk) == 1 {
			order = append(order, int(own.Dk[0]))
		}
	}
	trial.WantNumbers(t, "as they came", order, []int{15, 6, 14, 17, 3, 12, 18, 19, 22, 21, 2, 5, 11, 1, 10, 20, 16})
}

// P15.1 (U3): a node of the path that is blank behind it is over the leaf too: its key goes, and none comes for it; of a leaf in the right half, too.
func TestKeysOfBlankNodes(t *testing.T) {
	tree := keyed(trial.WithKeys(trial.TreeOf(3, 0, 5), trial.NoneIs))
	for _, number := range []int{5, 13} {
		tree.Nodes[number] = api.Node{}
	}
	m := making{tree, 5, nil, trial.Ordinary(32, 5), nil}
	by := wantMade(t, m)
	trial.WantNumbers(t, "the filtered path", []int{by.own[0].Node, by.own[1].Node, len(by.own)}, []int{7, 10, 2})
	var mine []api.Own
	for number := range tree.Nodes {
		mine = append(mine, own(number))
	}
	x := m.taken(by.u, mine...)
	wantTaken(t, "with keys of all nodes", x, by)
	got, _ := x.take()
	var nodes []int
	for _, own := range got.own {
		nodes = append(nodes, own.Node)
	}
	trial.WantNumbers(t, "the nodes of what is kept and comes", nodes, []int{0, 1, 2, 3, 4, 5, 6, 7, 8, 12, 13, 14})
}

// boxedWith is an update whose steps from one on have secrets that follow from another one, with that in the boxes of the first of these.
func boxedWith(t *testing.T, m making, u api.Update, from int, secret []byte) api.Update {
	t.Helper()
	way := plainWay(m.tree, m.leaf)
	secrets := plainSecrets(secret, len(way)-from)
	return withUpdate(u, func(u *api.Update) {
		for i, secret := range secrets {
			u.Steps[from+i].Ek = plainKeys(t, secret).ek
		}
		for at, number := range plainTold(m.tree, way[from], m.skip) {
			u.Steps[from].Boxes[at] = plainBox(t, m.tree.Nodes[number].Ek, m.info, number, secret)
		}
	})
}

// P15.1 (U3): a secret is what the box says, of whatever length; what counts is that its keys are the steps'.
func TestSecretsOfOtherLengths(t *testing.T) {
	m := richMaking()
	by := wantMade(t, m)
	for _, n := range []int{0, 1, 31, 32, 33, 64, 65, 1000} {
		secret := trial.Ordinary(n, n)
		u := boxedWith(t, m, by.u, 1, secret)
		_, err := wantTold(t, "a secret of another length", m.taken(u, own(6)))
		trial.WantErr(t, "a secret of another length", err, api.OK)
		wantNotTaken(t, "a step above, that tells what was", m.taken(u, own(8)), api.ErrPath)
		wantNotTaken(t, "a step below, that tells what was", m.taken(u, own(2)), api.ErrPath)
	}
}

// P15.1 (U3): a secret whose first keys are the step's, and whose next ones are not; and such as tells the next step's.
func TestSecretsOfOtherSteps(t *testing.T) {
	m := richMaking()
	by := wantMade(t, m)
	secrets := plainSecrets(m.seed, 5)
	for from, secret := range secrets[1:4] {
		for other, wrong := range secrets {
			u := withUpdate(by.u, func(u *api.Update) {
				for at, number := range plainTold(m.tree, plainWay(m.tree, m.leaf)[from], nil) {
					u.Steps[from].Boxes[at] = plainBox(t, m.tree.Nodes[number].Ek, m.info, number, wrong)
				}
			})
			number := []int{2, 6, 13}[from]
			if other == from+1 {
				trial.WantBytes(t, "the step's secret", wrong, secret)
				wantTaken(t, "the step's secret", m.taken(u, own(number)), by)
				continue
			}
			wantNotTaken(t, "the secret of another step", m.taken(u, own(number)), api.ErrPath)
		}
	}
}

// P15.1 (U3): what a box has ahead and in its coins: whose number, in four bytes, and the secret.
func TestWhatStandsAhead(t *testing.T) {
	m := richMaking()
	by := wantMade(t, m)
	secret := plainSecrets(m.seed, 3)[2]
	for _, ahead := range [][]byte{nil, {5}, {0, 5}, {0, 0, 5}, {5, 0, 0, 0}, {0, 0, 0, 6}, {0, 0, 0, 0, 5}, {4, 0, 0, 0, 5}} {
		sent, err := box.Send(pairs()[5].ek, m.info, ahead, secret, plainLabel(secret, "coins", numberBytes(5)))
		trial.WantErr(t, "box.Send", err, api.OK)
		u := withUpdate(by.u, func(u *api.Update) { u.Steps[1].Boxes[0] = sent })
		wantNotTaken(t, "something else ahead", m.taken(u, own(5)), api.ErrTag)
	}
	for _, coins := range trial.Seeds(32, 1) {
		sent, err := box.Send(pairs()[5].ek, m.info, numberBytes(5), secret, coins)
		trial.WantErr(t, "box.Send", err, api.OK)
		u := withUpdate(by.u, func(u *api.Update) { u.Steps[1].Boxes[0] = sent })
		wantTaken(t, "of other coins", m.taken(u, own(5)), by)
	}
}
