package sched_test

import (
	"testing"

	"sodality/api"
	"sodality/sched"
	"sodality/trial"
)

func joining(name string, init, commit, context []byte) trial.Call {
	return trial.Call{Name: "Joiner " + name, Take: [][]byte{init, commit, context}, Do: func(b [][]byte) [][]byte {
		return [][]byte{sched.Joiner(b[0], b[1], b[2])}
	}}
}

func deriving(name string, joiner, context []byte) trial.Call {
	return trial.Call{Name: "Derive " + name, Take: [][]byte{joiner, context}, Do: func(b [][]byte) [][]byte {
		return keysOf(sched.Derive(b[0], b[1]))
	}}
}

func summing(name string, a, b []byte) trial.Call {
	return trial.Call{Name: "sums " + name, Take: [][]byte{a, b}, Do: func(b [][]byte) [][]byte {
		return [][]byte{sched.Confirmed(b[0], b[1]), sched.Interim(b[0], b[1])}
	}}
}

// exporting lends all keys of an epoch, and the context.
func exporting(name string, k api.Epoch, label string, context []byte, n int) trial.Call {
	return trial.Call{Name: "Export " + name, Take: append(keysOf(k), context), Do: func(b [][]byte) [][]byte {
		var lent api.Epoch
		for i, place := range placesOf(&lent) {
			*place = b[i]
		}
		return [][]byte{sched.Export(lent, label, b[7], n)}
	}}
}

func calls() trial.Calls {
	var all trial.Calls
	for _, n := range some() {
		a, b, c := ordinary(n, 1), ordinary(n, 2), ordinary(n, 3)
		k := epoch(1)
		k.Export = a
		all = append(all,
			joining("of three", a, b, c), joining("of one thrice", a, a, a), joining("of an init", a, []byte{}, []byte{}),
			deriving("of two", a, b), deriving("of one twice", a, a), deriving("of a joiner", a, []byte{}), deriving("of a context", []byte{}, b),
			summing("of two", a, b), summing("of one twice", a, a), summing("of one", a, []byte{}),
			exporting("some", k, "voice", c, 20), exporting("a key", k, "voice", c, 32), exporting("all there are", k, "", c, 8160), exporting("none", k, "voice", c, 0),
			exporting("too many", k, "voice", c, 8161), exporting("fewer than none", k, "voice", c, -1), exporting("a label too long", k, string(ordinary(41, 4)), c, 20))
	}
	return all
}

// P3: lists that are handed in are neither changed nor kept, nor is their spare room, with an answer as with nothing.
func TestListsHandedIn(t *testing.T) {
	calls().WantLent(t)
}

// P3: lists that come out are new memory, their spare room too; to change one changes no other of an epoch's, and no later answer.
func TestListsThatComeOut(t *testing.T) {
	calls().WantNew(t)
}

// P3: of an epoch's keys each is wiped alone, and all others stay as they were.
func TestKeysOfOneEpoch(t *testing.T) {
	want := plainDerive(ordinary(32, 5), nil)
	for i := range names() {
		k := sched.Derive(ordinary(32, 5), nil)
		b := *placesOf(&k)[i]
		clear(b[:cap(b)])
		*placesOf(&k)[i] = keysOf(want)[i]
		wantKeys(t, "behind a change of "+names()[i], k, want)
	}
}

// P3: one list may be handed in for several, or be a piece of another.
func TestOneListForSeveral(t *testing.T) {
	b := ordinary(20000, 6)
	for _, x := range [][3][]byte{{b, b, b}, {b[:32], b[:32], b[:32]}, {b[:32], b, b[5:]}, {b[100:132], b[90:16090], b[:16001]}} {
		wantJoiner(t, x[0], x[1], x[2])
		wantDerived(t, x[0], x[1])
		wantSum(t, x[1], x[2])
		wantExported(t, api.Epoch{Export: x[0], Init: x[1], Welcome: x[0]}, string(x[0][:20]), x[2], 100)
	}
	trial.WantBytes(t, "the memory", b, ordinary(20000, 6))
	k := sched.Derive(b[:32], b)
	wantExported(t, k, "voice", k.Export, 32)
	wantKeys(t, "behind what was exported", k, plainDerive(b[:32], b))
}

// P3: the same arguments again, behind other calls and behind such as answered nothing.
func TestAskedAgain(t *testing.T) {
	a, b := ordinary(32, 7), ordinary(50, 8)
	joiner, k, sum, exported := wantJoiner(t, a, b, b), wantDerived(t, a, b), wantSum(t, a, b), wantExported(t, epoch(2), "voice", b, 32)
	for _, n := range edges() {
		other := ordinary(n, 9)
		wantJoiner(t, other, other, other)
		wantDerived(t, other, other)
		wantSum(t, other, other)
		wantNotExported(t, "a wrong count", epoch(3), "voice", other, -1)
		trial.WantBytes(t, "Joiner", sched.Joiner(a, b, b), joiner)
		wantKeys(t, "Derive", sched.Derive(a, b), k)
		trial.WantBytes(t, "Confirmed", sched.Confirmed(a, b), sum)
		trial.WantBytes(t, "Interim", sched.Interim(a, b), sum)
		trial.WantBytes(t, "Export", sched.Export(epoch(2), "voice", b, 32), exported)
	}
}
