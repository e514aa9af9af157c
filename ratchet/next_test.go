package ratchet_test

import (
	"testing"

	"sodality/api"
	"sodality/hkdf"
	"sodality/ratchet"
	"sodality/trial"
	"sodality/wire"
)

// P17.1 (V2): of all that are right, up to the last number.
func TestNext(t *testing.T) {
	for _, r := range rights() {
		if r.Gen == maxGen {
			wantNoNext(t, "at the last number", r, api.ErrTooMany)
		} else {
			wantNext(t, r)
		}
	}
}

// P17.1 (V2): the first number, the last that has a key, and the one behind it, which has none.
func TestNextAtTheEdges(t *testing.T) {
	r, _ := wantNext(t, ratchetOf(0))
	wantGen(t, "behind the first", r.Gen, 1)
	for _, many := range []int{0, 16} {
		last := withKept(maxGen-2, many)
		for range 2 {
			last, _ = wantNext(t, last)
		}
		wantGen(t, "behind the last", last.Gen, maxGen)
		wantNoNext(t, "behind the last", last, api.ErrTooMany)
	}
}

// P17.1 (V2): by hkdf's and wire's own calls, one behind the other.
func TestNextByOtherCalls(t *testing.T) {
	for _, gen := range []int64{0, 250, 65530, maxGen - 12} {
		r := ratchetOf(gen)
		secret := r.Secret
		for i := range int64(12) {
			number := wire.Number(gen+i, 4)
			next, at, key, err := ratchet.Next(r)
			trial.WantErr(t, "Next", err, api.OK)
			wantGen(t, "its number", at, gen+i)
			trial.WantBytes(t, "its key", key, hkdf.Label(secret, "key", number, 32))
			secret = hkdf.Label(secret, "next", number, 32)
			trial.WantBytes(t, "the secret behind", next.Secret, secret)
			r = next
		}
	}
}

// P17.1 (V2): Kept stay as they are, however often it is asked.
func TestNextLeavesKept(t *testing.T) {
	for _, many := range []int{1, 8, 15, 16} {
		first := withKept(40, many)
		r := first
		for range 40 {
			r, _ = wantNext(t, r)
		}
		r.Gen, r.Secret = first.Gen, first.Secret
		wantRatchet(t, "but for its number and its secret", r, first)
	}
}

// P17.1 (V2), P17.2: the keys of a ratchet, and its secrets, are all unlike; and of another secret, or of the same at another number, they are others.
func TestKeysAreUnlike(t *testing.T) {
	seen, many := map[string]bool{}, 0
	for which := range 4 {
		r := ratchet.New(trial.Ordinary(32, which))
		for range 200 {
			next, key := wantNext(t, r)
			seen[string(key)], seen[string(r.Secret)] = true, true
			many += 2
			r = next
		}
	}
	for _, gen := range gens()[1 : len(gens())-1] {
		next, key := wantNext(t, api.Ratchet{Gen: gen, Secret: trial.Ordinary(32, 0)})
		seen[string(key)], seen[string(next.Secret)] = true, true
		many += 2
	}
	trial.WantNumber(t, "unlike keys and secrets", len(seen), many)
}

// P17.1 (V2): a key, and the secret behind, hang on every bit of the secret, and not on what is Kept.
func TestNextHangsOnTheSecret(t *testing.T) {
	r := withKept(300, 5)
	first, firstKey := wantNext(t, r)
	for at := range r.Secret {
		for bit := range 8 {
			next, key := wantNext(t, changed(r, func(r *api.Ratchet) { r.Secret[at] ^= 1 << bit }))
			wantUnlike(t, "a key", key, firstKey)
			wantUnlike(t, "a secret", next.Secret, first.Secret)
		}
	}
	next, key := wantNext(t, changed(r, func(r *api.Ratchet) { r.Kept = nil }))
	trial.WantBytes(t, "a key, without Kept", key, firstKey)
	trial.WantBytes(t, "a secret, without Kept", next.Secret, first.Secret)
}
