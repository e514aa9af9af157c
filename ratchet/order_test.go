package ratchet_test

import (
	"slices"
	"testing"

	"sodality/api"
	"sodality/ratchet"
	"sodality/trial"
)

// toldByNext are so many keys of a ratchet, asked for again and again.
func toldByNext(t *testing.T, r api.Ratchet, many int) [][]byte {
	t.Helper()
	var out [][]byte
	for range many {
		next, _, key, err := ratchet.Next(r)
		trial.WantErr(t, "Next", err, api.OK)
		r, out = next, append(out, key)
	}
	return out
}

// window is some numbers of a ratchet's, from the first on, that may be asked for in whatever order.
type window struct {
	first int64
	keys  [][]byte // by Next
	asked int
}

// wantOrders asks for all numbers that are not taken, in all orders, and for each number that was taken once more.
func (w *window) wantOrders(t *testing.T, r api.Ratchet, taken []bool) {
	t.Helper()
	for n := range taken {
		gen := w.first + int64(n)
		got, key, err := ratchet.Take(r, gen)
		if taken[n] {
			if err != api.ErrUsed || len(key) > 0 {
				t.Fatalf("%d of %v: got error %d and %x, want ErrUsed", gen, taken, err, key)
			}
			continue
		}
		if err != api.OK || string(key) != string(w.keys[n]) {
			t.Fatalf("%d of %v: got error %d and %x, want %x", gen, taken, err, key, w.keys[n])
		}
		w.asked++
		taken[n] = true
		w.wantOrders(t, got, taken)
		taken[n] = false
	}
}

// P17.2, P17.3: all orders of the numbers within a window.
func TestAllOrders(t *testing.T) {
	for _, x := range []struct {
		r          api.Ratchet
		many, want int
	}{
		{ratchet.New(trial.Ordinary(32, 1)), 9, 986409}, // 9, and 9 times 8, and so on, and 9 times 8 .. times 1
		{withKept(1000, 8), 7, 13699},
		{ratchetOf(maxGen - 6), 6, 1956},
		{withKept(maxGen-5, 12), 5, 325},
	} {
		w := window{x.r.Gen, toldByNext(t, x.r, x.many), 0}
		w.wantOrders(t, x.r, make([]bool, x.many))
		trial.WantNumber(t, "keys, in all orders", w.asked, x.want)
	}
}

// standing is where a ratchet stands from which those of its first numbers are taken that a set tells, whatever the order was.
func standing(first api.Ratchet, secrets [][]byte, chain []api.Kept, set int) api.Ratchet {
	gone := 0
	for set>>gone > 0 {
		gone++
	}
	out := api.Ratchet{Gen: first.Gen + int64(gone), Secret: secrets[gone], Kept: slices.Clone(first.Kept)}
	for i, k := range chain[:gone] {
		if set>>i&1 == 0 {
			out.Kept = append(out.Kept, k)
		}
	}
	return out
}

// P17.2, P17.3: as many numbers as may be passed over, and more: from each set of numbers that are taken, each further one leads to that set with it, so that all orders tell the same keys, and come to the same.
func TestAllSets(t *testing.T) {
	const many = 11
	for _, first := range []api.Ratchet{ratchet.New(trial.Ordinary(32, 2)), withKept(200, 6), ratchetOf(maxGen - many)} {
		secrets, chain := plainSecrets(first, many+1), plainChain(first, many)
		keys := toldByNext(t, first, many)
		for set := range 1 << many {
			r := standing(first, secrets, chain, set)
			for n := range many {
				gen := first.Gen + int64(n)
				got, key, err := ratchet.Take(r, gen)
				want := api.Ratchet{}
				var wantKey []byte
				wantErr := plainErr(r, gen)
				if wantErr == api.OK {
					want, wantKey = standing(first, secrets, chain, set|1<<n), keys[n]
				}
				trial.WantErr(t, "Take", err, wantErr)
				trial.WantBytes(t, "a key", key, wantKey)
				wantRatchet(t, "Take", got, want)
				if set>>n&1 == 1 {
					trial.WantErr(t, "a key that was taken", err, api.ErrUsed)
				}
			}
		}
	}
}

// asker asks for keys in some order, and marks who was told which.
type asker struct {
	r      api.Ratchet
	keys   [][]byte
	told   map[int64]bool
	unlike map[string]bool
}

func (a *asker) mark(t *testing.T, gen int64, key []byte) {
	t.Helper()
	trial.WantBytes(t, "a key", key, a.keys[gen])
	if a.told[gen] || a.unlike[string(key)] {
		t.Fatalf("%d: told twice", gen)
	}
	a.told[gen], a.unlike[string(key)] = true, true
}

// wantUsed: whatever was told, and whatever is gone, is ErrUsed from then on.
func (a *asker) wantUsed(t *testing.T) {
	t.Helper()
	for gen := range a.r.Gen {
		isKept := slices.ContainsFunc(a.r.Kept, func(k api.Kept) bool { return k.Gen == gen })
		if isKept && a.told[gen] {
			t.Fatalf("%d: told, and still there", gen)
		}
		if !isKept {
			wantNotTaken(t, "told, or gone", a.r, gen, api.ErrUsed)
		}
	}
}

func (a *asker) ask(t *testing.T, b int) {
	t.Helper()
	if b%5 == 0 {
		next, gen, key, err := ratchet.Next(a.r)
		trial.WantErr(t, "Next", err, api.OK)
		a.mark(t, gen, key)
		a.r = next
		return
	}
	gen := a.r.Gen + int64(b%21) - 10
	got, key, err := ratchet.Take(a.r, gen)
	trial.WantErr(t, "Take", err, plainErr(a.r, gen))
	if err == api.OK {
		a.mark(t, gen, key)
		a.r = got
	}
}

// P17.2, P17.3: Next and Take, one behind the other, of numbers ahead and behind: none is told twice, and each is that which Next alone tells.
func TestWhateverOrder(t *testing.T) {
	for which := range 40 {
		r := ratchet.New(trial.Ordinary(32, 100+which))
		a := asker{r, toldByNext(t, r, 1200), map[int64]bool{}, map[string]bool{}}
		for _, b := range trial.Ordinary(100, 200+which) {
			a.ask(t, int(b))
			wantRight(t, "whatever was asked", a.r, true)
			a.wantUsed(t)
		}
		trial.WantNumber(t, "keys that are told", len(a.unlike), len(a.told))
	}
}

// P17.3: rows of texts that come late: each is up to eight numbers late, and none is lost.
func TestLateOnes(t *testing.T) {
	for which := range 30 {
		r := ratchetOf(int64(which * 50))
		first, keys := r.Gen, toldByNext(t, r, 200)
		late := trial.Ordinary(200, 300+which)
		order := make([]int, 200)
		for i := range order {
			order[i] = i
		}
		slices.SortStableFunc(order, func(a, b int) int { return a + int(late[a]%9) - b - int(late[b]%9) })
		for _, n := range order {
			gen := first + int64(n)
			got, key := wantTaken(t, r, gen)
			trial.WantBytes(t, "a late one", key, keys[n])
			wantNotTaken(t, "once more", got, gen, api.ErrUsed)
			r = got
		}
		wantRatchet(t, "behind all", r, api.Ratchet{Gen: first + 200, Secret: plainSecrets(ratchetOf(first), 201)[200]})
	}
}

// P17.3: two members' ratchets of one leaf's secret: what the one tells by Next, the other takes, the last of a window first.
func TestTwoRatchets(t *testing.T) {
	encrypt := trial.Ordinary(32, 5)
	for leaf := range 8 {
		sender, taker := ratchet.New(ratchet.Secret(encrypt, 3, leaf)), ratchet.New(ratchet.Secret(encrypt, 3, leaf))
		for range 10 {
			keys, first := toldByNext(t, sender, 9), sender.Gen
			for n := 8; n >= 0; n-- {
				sender, _ = wantNext(t, sender)
				got, key := wantTaken(t, taker, first+int64(n))
				trial.WantBytes(t, "a key", key, keys[n])
				taker = got
			}
			wantRatchet(t, "both", taker, sender)
		}
	}
}
