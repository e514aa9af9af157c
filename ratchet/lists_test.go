package ratchet_test

import (
	"reflect"
	"slices"
	"testing"

	"sodality/api"
	"sodality/ratchet"
	"sodality/trial"
)

// lent is a ratchet of which each list has more ahead of it, and spare room behind it: all of that must stay as it was.
type lent struct {
	api.Ratchet
	isSame []func() bool
}

func lendList[E any](l *lent, list []E, more E) []E {
	room := slices.Concat([]E{more}, list, slices.Repeat([]E{more}, 20))
	was := slices.Clone(room)
	l.isSame = append(l.isSame, func() bool { return reflect.DeepEqual(room, was) })
	return room[1 : 1+len(list)]
}

func lend(r api.Ratchet) *lent {
	l := &lent{Ratchet: copied(r)}
	l.Secret = lendList(l, l.Secret, 77)
	for i, k := range l.Kept {
		l.Kept[i].Key = lendList(l, k.Key, 77)
	}
	l.Kept = lendList(l, l.Kept, api.Kept{Gen: 7, Key: []byte("more")})
	return l
}

func (l *lent) wantSame(t *testing.T, what string) {
	t.Helper()
	for _, isSame := range l.isSame {
		if !isSame() {
			t.Fatalf("%s: something that was handed in is changed", what)
		}
	}
}

func wipe[E any](list []E) { clear(list[:cap(list)]) }

func wipeRatchet(r api.Ratchet) {
	wipe(r.Secret)
	for _, k := range r.Kept {
		wipe(k.Key)
	}
	wipe(r.Kept)
}

// answer is what Next or Take says.
type answer struct {
	r   api.Ratchet
	gen int64
	key []byte
	err api.Errno
}

func (a answer) copied() answer {
	return answer{copied(a.r), a.gen, slices.Clone(a.key), a.err}
}

func wantAnswer(t *testing.T, what string, got, want answer) {
	t.Helper()
	trial.WantErr(t, what, got.err, want.err)
	wantGen(t, what+", its number", got.gen, want.gen)
	trial.WantBytes(t, what+", its key", got.key, want.key)
	wantRatchet(t, what, got.r, want.r)
}

// asking is a call of a ratchet, that brings an answer or an error.
type asking struct {
	name string
	r    api.Ratchet
	do   func(r api.Ratchet) answer
}

func next(r api.Ratchet) answer {
	out, gen, key, err := ratchet.Next(r)
	return answer{out, gen, key, err}
}

func taking(gen int64) func(r api.Ratchet) answer {
	return func(r api.Ratchet) answer {
		out, key, err := ratchet.Take(r, gen)
		return answer{out, gen, key, err}
	}
}

func askings() []asking {
	some := []api.Ratchet{ratchetOf(60), withKept(60, 1), withKept(60, 8), withKept(60, 15), withKept(60, 16), withKept(maxGen, 3), withKept(maxGen-4, 16)}
	for _, x := range wrongs() {
		if len(x.r.Kept) <= maxKept+1 {
			some = append(some, x.r)
		}
	}
	var out []asking
	for _, r := range some {
		out = append(out, asking{"Next", r, next})
		for _, k := range r.Kept {
			out = append(out, asking{"Take of one that is Kept", r, taking(k.Gen)})
		}
		for _, further := range []int64{-1, 0, 1, 4, 8, 9} {
			out = append(out, asking{"Take of another", r, taking(r.Gen + further)})
		}
	}
	return out
}

// P3: what is handed in is not changed, nor its spare room, and its Kept neither; the same arguments bring the same again.
func TestRatchetsHandedIn(t *testing.T) {
	for _, x := range askings() {
		first, isRight := x.do(x.r).copied(), ratchet.Right(x.r)
		l := lend(x.r)
		for range 2 {
			wantAnswer(t, x.name+", asked again", x.do(l.Ratchet), first)
			wantRight(t, x.name, l.Ratchet, isRight)
			l.wantSame(t, x.name)
		}
	}
}

// P3: what is handed in is not kept: what a key was made of may be wiped, and the key stays; so does the ratchet, though it need not be new memory.
func TestRatchetsAreNotKept(t *testing.T) {
	for _, x := range askings() {
		l := lend(x.r)
		got := x.do(l.Ratchet)
		kept := got.copied()
		wipeRatchet(l.Ratchet)
		wantAnswer(t, x.name+", behind a change of what was handed in", got, kept)
		wantAnswer(t, x.name+", asked again", x.do(x.r), kept)
	}
}

// P3: a key that comes out is new memory, its spare room too: to wipe it changes no ratchet, ahead or behind; and to wipe a ratchet that came out changes neither the key nor what was handed in.
func TestWhatComesOut(t *testing.T) {
	for _, x := range askings() {
		l := lend(x.r)
		first, again := x.do(l.Ratchet), x.do(l.Ratchet)
		kept := first.copied()
		wipe(first.key)
		wantRatchet(t, x.name+", behind a change of the key", first.r, kept.r)
		l.wantSame(t, x.name+", behind a change of the key")
		wipeRatchet(again.r)
		trial.WantBytes(t, x.name+", behind a change of the ratchet", again.key, kept.key)
		l.wantSame(t, x.name+", behind a change of the ratchet")
		wantRatchet(t, x.name+", behind a change of another one", first.r, kept.r)
		wantAnswer(t, x.name+", asked once more", x.do(l.Ratchet), kept)
	}
}

// P3: no two lists of a ratchet share memory: each is wiped alone, and the others stay.
func TestListsOfOneRatchet(t *testing.T) {
	for _, r := range []api.Ratchet{withKept(60, 3), withKept(60, 16)} {
		for _, do := range []func(r api.Ratchet) answer{next, taking(60), taking(68), taking(59), taking(58)} {
			want := do(r)
			for i := range len(want.r.Kept) + 1 {
				got, want := do(r), want.copied()
				if i == len(want.r.Kept) {
					wipe(got.r.Secret)
					wipe(want.r.Secret)
				} else {
					wipe(got.r.Kept[i].Key)
					wipe(want.r.Kept[i].Key)
				}
				wantAnswer(t, "behind a change of one list", got, want)
			}
		}
	}
}

// secretCalls are those that take bytes.
func secretCalls() trial.Calls {
	var out trial.Calls
	for _, n := range []int{0, 31, 32, 33} {
		for _, deep := range []int{0, 1, 6, 16, 17} {
			out = append(out, trial.Call{Name: "Secret", Take: [][]byte{trial.Ordinary(n, 3)}, Do: func(b [][]byte) [][]byte {
				return [][]byte{ratchet.Secret(b[0], deep, 0), ratchet.Secret(b[0], deep, 1)}
			}})
		}
		out = append(out, trial.Call{Name: "New", Take: [][]byte{trial.Ordinary(n, 4)}, Do: func(b [][]byte) [][]byte {
			return [][]byte{ratchet.New(b[0]).Secret}
		}})
	}
	return out
}

// P3: what Secret is handed is neither changed nor kept, nor is its spare room, and what it answers is new memory, of a tree of one leaf too; so it is with New, though that may share.
func TestSecretsLists(t *testing.T) {
	secretCalls().WantLent(t)
	secretCalls().WantNew(t)
}

// P3: a ratchet stays as it is, whatever is done next with it, and of one ratchet several may come.
func TestRatchetsThatAreAsked(t *testing.T) {
	first := withKept(60, 12)
	was := copied(first)
	for range 2 {
		one, _ := wantTaken(t, first, 68)
		oneWas := copied(one)
		two, _ := wantTaken(t, first, 60)
		three, _ := wantNext(t, first)
		wantRatchet(t, "the same by both", two, three)
		for _, gen := range []int64{61, 62, 65} {
			wantTaken(t, one, gen)
			wantTaken(t, three, gen)
		}
		wantRatchet(t, "the first", first, was)
		wantRatchet(t, "one that came of it", one, oneWas)
		wantNotTaken(t, "too far", first, 69, api.ErrFar)
	}
}
