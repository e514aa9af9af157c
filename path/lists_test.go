package path_test

import (
	"reflect"
	"slices"
	"testing"

	"sodality/api"
	"sodality/path"
	"sodality/trial"
)

// lender lends lists: each has more ahead of it, and spare room behind it; all of that must stay as it was.
type lender struct{ isSame []func() bool }

func lend[E any](l *lender, list []E, more E) []E {
	room := slices.Concat([]E{more}, list, []E{more, more, more})
	was := slices.Clone(room)
	l.isSame = append(l.isSame, func() bool { return reflect.DeepEqual(room, was) })
	return room[1 : 1+len(list)]
}

func (l *lender) bytes(b []byte) []byte { return lend(l, b, 77) }

func (l *lender) update(u api.Update) api.Update {
	out := copiedUpdate(u)
	out.Ek = l.bytes(out.Ek)
	for i, s := range out.Steps {
		for at, b := range s.Boxes {
			s.Boxes[at] = l.bytes(b)
		}
		out.Steps[i] = api.Step{Ek: l.bytes(s.Ek), Boxes: lend(l, s.Boxes, []byte{7})}
	}
	out.Steps = lend(l, out.Steps, api.Step{Ek: []byte{7}})
	return out
}

func (l *lender) own(mine []api.Own) []api.Own {
	out := slices.Clone(mine)
	for i, own := range out {
		out[i].Dk = l.bytes(own.Dk)
	}
	return lend(l, out, api.Own{Node: 5, Dk: []byte{7}})
}

func (l *lender) wantSame(t *testing.T, what string) {
	t.Helper()
	for _, isSame := range l.isSame {
		if !isSame() {
			t.Fatalf("%s: something that was handed in is changed", what)
		}
	}
}

// makings and takings bring an answer, or an error.
func makings() map[string]making {
	m, skips := richMaking(), richMaking()
	skips.skip = []int{7, 3, 3, -1}
	wrong, noKey, noTree, noLeaf := m, m, m, m
	wrong.seed, noLeaf.leaf = m.seed[:31], 8
	noKey.tree = withNode(m.tree, 14, func(n *api.Node) { n.Ek = tooGreat(n.Ek, 0) })
	noTree.tree = withNode(m.tree, 14, func(n *api.Node) { n.Ek = nil })
	alone := making{keyed(trial.TreeOf(0, 0)), 0, nil, m.seed, nil}
	return map[string]making{"a path": m, "some skipped": skips, "alone": alone, "a wrong seed": wrong, "no key": noKey, "no tree": noTree, "no leaf": noLeaf}
}

func takings(t *testing.T) map[string]taking {
	m := richMaking()
	by := wantMade(t, m)
	skips := m
	skips.skip = []int{7, 3, 3, -1}
	bySkips := wantMade(t, skips)
	all := []api.Own{own(14), own(4), own(0), own(5), {Node: 5, Dk: []byte{1}}, {Node: -1}, own(3)}
	spoilt := withUpdate(by.u, func(u *api.Update) { u.Steps[1].Boxes[0][1151] ^= 1 })
	other := withUpdate(by.u, func(u *api.Update) { u.Steps[2].Ek = pairs()[90].ek })
	noTree := m
	noTree.tree = withNode(m.tree, 14, func(n *api.Node) { n.Ek = nil })
	return map[string]taking{
		"a path": m.taken(by.u, all...), "some skipped": skips.taken(bySkips.u, all...), "no steps": m.taken(api.Update{Ek: by.u.Ek}, all...), "nobody is told": m.taken(by.u, own(3)),
		"a spoilt box": m.taken(spoilt, all...), "another Ek": m.taken(other, all...), "no tree": noTree.taken(by.u, all...), "no key": m.taken(by.u, api.Own{Node: 5}),
	}
}

// P3: what is handed in to Make is not changed, nor its spare room, whatever the answer is; and the same arguments bring the same again.
func TestWhatMakeIsHanded(t *testing.T) {
	for name, m := range makings() {
		first, firstErr := m.make()
		var l lender
		tree := trial.LendTree(m.tree)
		lent := making{tree.Tree, m.leaf, lend(&l, m.skip, 1), l.bytes(m.seed), l.bytes(m.info)}
		for range 2 {
			got, err := lent.make()
			trial.WantErr(t, name, err, firstErr)
			wantSame(t, name, got, first)
			tree.WantSame(t, name)
			l.wantSame(t, name)
		}
	}
}

// P3: what is handed in to Take, Lay, Filter and Right likewise.
func TestWhatTakeIsHanded(t *testing.T) {
	for name, x := range takings(t) {
		first, firstErr := x.take()
		laid, laidErr := path.Lay(x.tree, x.leaf, x.u)
		var l lender
		tree := trial.LendTree(x.tree)
		lent := taking{tree.Tree, x.leaf, lend(&l, x.skip, 1), l.update(x.u), l.bytes(x.info), l.own(x.mine)}
		for range 2 {
			got, err := lent.take()
			trial.WantErr(t, name, err, firstErr)
			wantSame(t, name, got, first)
			again, err := path.Lay(lent.tree, lent.leaf, lent.u)
			trial.WantErr(t, name, err, laidErr)
			trial.WantTree(t, name, again, laid)
			wantSpots(t, name, path.Filter(lent.tree, lent.leaf), path.Filter(x.tree, x.leaf))
			wantRight(t, name, lent.tree, lent.leaf, path.Right(x.tree, x.leaf))
			tree.WantSame(t, name)
			l.wantSame(t, name)
		}
	}
}

// spoil overwrites lists, and their spare room, that came out: those of a tree may be shared.
func spoil(m made) {
	wipe(m.u.Ek)
	for _, s := range m.u.Steps {
		wipe(s.Ek)
		for _, b := range s.Boxes {
			wipe(b)
		}
		wipe(s.Boxes)
	}
	wipe(m.u.Steps)
	for _, own := range m.own {
		wipe(own.Dk)
	}
	wipe(m.own)
	wipe(m.commit)
}

func wipe[E any](list []E) { clear(list[:cap(list)]) }

// copiedMade shares no memory with what was made.
func copiedMade(m made) made {
	out := made{trial.CopiedTree(m.tree), copiedUpdate(m.u), slices.Clone(m.own), slices.Clone(m.commit)}
	for i, own := range out.own {
		out.own[i].Dk = slices.Clone(own.Dk)
	}
	return out
}

// P3: what Make answers is new memory, spare room too: to spoil it changes nothing that was handed in, no tree, and no other answer.
func TestWhatMakeAnswers(t *testing.T) {
	for name, m := range makings() {
		var l lender
		tree := trial.LendTree(m.tree)
		lent := making{tree.Tree, m.leaf, lend(&l, m.skip, 1), l.bytes(m.seed), l.bytes(m.info)}
		first, err := lent.make()
		again, _ := lent.make()
		kept := copiedMade(first)
		spoil(first)
		trial.WantTree(t, name+", the tree behind a change of what came out with it", first.tree, kept.tree)
		wantSame(t, name+", behind a change of another answer", again, kept)
		tree.WantSame(t, name)
		l.wantSame(t, name)
		once, onceErr := lent.make()
		trial.WantErr(t, name+", once more", onceErr, err)
		wantSame(t, name+", once more", once, kept)
	}
}

// P3: what Take answers likewise: the keys that are kept are copies.
func TestWhatTakeAnswers(t *testing.T) {
	for name, x := range takings(t) {
		var l lender
		tree := trial.LendTree(x.tree)
		lent := taking{tree.Tree, x.leaf, lend(&l, x.skip, 1), l.update(x.u), l.bytes(x.info), l.own(x.mine)}
		first, err := lent.take()
		again, _ := lent.take()
		kept := copiedMade(first)
		spoil(first)
		trial.WantTree(t, name+", the tree behind a change of what came out with it", first.tree, kept.tree)
		wantSame(t, name+", behind a change of another answer", again, kept)
		tree.WantSame(t, name)
		l.wantSame(t, name)
		once, onceErr := lent.take()
		trial.WantErr(t, name+", once more", onceErr, err)
		wantSame(t, name+", once more", once, kept)
	}
}

// P3: no two lists of one answer share memory: each is wiped alone, and all the others stay as they were.
func TestListsOfOneAnswer(t *testing.T) {
	m := richMaking()
	by := wantMade(t, m)
	x := m.taken(by.u, own(14), own(4), own(5))
	for name, ask := range map[string]func() (made, api.Errno){"Make": m.make, "Take": x.take} {
		got, _ := ask()
		for i := range bytesOf(got) {
			got, _ := ask()
			want := copiedMade(got)
			wipe(bytesOf(got)[i])
			for k, b := range bytesOf(got) {
				if k != i {
					trial.WantBytes(t, name+", behind a change of another list", b, bytesOf(want)[k])
				}
			}
			trial.WantTree(t, name+", the tree behind a change of a list", got.tree, want.tree)
		}
	}
}

// bytesOf are all lists of bytes of an answer, but for the tree's.
func bytesOf(m made) [][]byte {
	out := [][]byte{m.commit, m.u.Ek}
	for _, own := range m.own {
		out = append(out, own.Dk)
	}
	for _, s := range m.u.Steps {
		out = append(append(out, s.Ek), s.Boxes...)
	}
	return out
}

// P3: spots that come out are new memory, their spare room too.
func TestSpotsThatComeOut(t *testing.T) {
	tree := rich()
	first, again := path.Filter(tree, 0), path.Filter(tree, 0)
	wipe(first)
	wantSpots(t, "behind a change of another", again, []complex128{1, 2, 3})
	wantSpots(t, "asked once more", path.Filter(tree, 0), []complex128{1, 2, 3})
}

// P3: a tree that is made stays as it is, whatever is done next with what it was made of by calls.
func TestTreesThatAreMade(t *testing.T) {
	m := richMaking()
	by := wantMade(t, m)
	kept := copiedMade(by)
	next := making{by.tree, 5, nil, trial.Ordinary(32, 2), nil}
	wantMade(t, next)
	wantLaid(t, by.tree, 0, by.u)
	wantTaken(t, "again", m.taken(by.u, own(2)), by)
	wantNotMade(t, "behind an error", making{by.tree, 9, nil, nil, nil}, api.ErrLeaf)
	wantSame(t, "what was made first", by, kept)
	wantSame(t, "made once more", wantMade(t, m), kept)
}
