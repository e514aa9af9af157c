package mldsa_test

import (
	"testing"

	"sodality/api"
	"sodality/mldsa"
	"sodality/pack"
	"sodality/trial"
)

func calls(t *testing.T) trial.Calls {
	pk, sk := ordinary(t)
	message, context, coins := trial.Ordinary(300, 1), trial.Ordinary(200, 2), trial.Ordinary(32, 3)
	s := signed(t, sk, message, context, coins)
	sign := func(b [][]byte) [][]byte {
		s, _ := mldsa.Sign(b[0], b[1], b[2], b[3])
		return [][]byte{s}
	}
	verify := func(b [][]byte) [][]byte { return trial.Truth(mldsa.Verify(b[0], b[1], b[2], b[3])) }
	out := trial.Calls{
		{Name: "Keys", Take: [][]byte{coins}, Do: func(b [][]byte) [][]byte {
			pk, sk, _ := mldsa.Keys(b[0])
			return [][]byte{pk, sk}
		}},
		{Name: "Sign", Take: [][]byte{sk, message, context, coins}, Do: sign},
		{Name: "Sign with a wrong key", Take: [][]byte{trial.Changed(sk, 128, 255), message, context, coins}, Do: sign},
		{Name: "Verify", Take: [][]byte{pk, message, context, s}, Do: verify},
		{Name: "Verify of what is none", Take: [][]byte{pk, message, context, trial.Changed(s, 50, 1)}, Do: verify},
	}
	for _, m := range makers() {
		out = append(out, trial.Call{Name: m.name, Take: [][]byte{trial.Ordinary(m.n, 1)}, Do: func(b [][]byte) [][]byte {
			p, _ := m.of(b[0])
			return [][]byte{pack.Pack(13, plainEach(p, func(n int) int { return (n + 8) % 8192 }))}
		}})
	}
	return out
}

// P3: lists that are handed in are neither changed nor kept, nor is their spare room, with an answer as with an error.
func TestListsHandedIn(t *testing.T) {
	calls(t).WantLent(t)
}

// P3: lists that come out are new memory, their spare room too; to change one changes no other one, and no later answer.
func TestListsThatComeOut(t *testing.T) {
	calls(t).WantNew(t)
}

// P3: one list may be handed in for several, or be a piece of another.
func TestOneListForSeveral(t *testing.T) {
	pk, sk := ordinary(t)
	seed := sk[:32]
	s := signed(t, sk, sk, sk[100:200], seed)
	trial.WantBytes(t, "of pieces", s, signed(t, trial.Joined(sk), trial.Joined(sk), trial.Joined(sk[100:200]), trial.Joined(seed)))
	wantVerified(t, "of pieces", pk, sk, sk[100:200], s, true)
	s = signed(t, sk, pk, pk[:255], pk[:32])
	wantVerified(t, "of pieces of the public key", pk, pk, pk[:255], s, true)
	key, _, err := mldsa.Keys(pk[:32])
	trial.WantErr(t, "Keys", err, api.OK)
	other, _ := keysOf(t, trial.Joined(pk[:32]))
	trial.WantBytes(t, "the key of a piece", key, other)
}
