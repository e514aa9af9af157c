package kpke_test

import (
	"math"
	"testing"

	"sodality/api"
	"sodality/kpke"
	"sodality/trial"
)

func calls(t *testing.T) trial.Calls {
	seed := trial.Seeds(32, 1)[2]
	ek, dk := keysOf(t, seed)
	c := textOf(t, ek, seed, seed)
	poly := func(p api.Poly, _ api.Errno) [][]byte { return [][]byte{plainEncode(12, p)} }
	return trial.Calls{
		{Name: "Uniform", Take: [][]byte{trial.Joined(seed, []byte{1, 2})}, Do: func(b [][]byte) [][]byte { return poly(kpke.Uniform(b[0])) }},
		{Name: "Centred", Take: [][]byte{trial.Joined(seed, seed, seed, seed)}, Do: func(b [][]byte) [][]byte { return poly(kpke.Centred(b[0])) }},
		{Name: "Decode", Take: [][]byte{dk[:384]}, Do: func(b [][]byte) [][]byte { return poly(kpke.Decode(12, b[0])) }},
		{Name: "Keys", Take: [][]byte{seed}, Do: func(b [][]byte) [][]byte {
			ek, dk, _ := kpke.Keys(b[0])
			return [][]byte{ek, dk}
		}},
		{Name: "Encrypt", Take: [][]byte{ek, seed, ek[:32]}, Do: func(b [][]byte) [][]byte {
			c, _ := kpke.Encrypt(b[0], b[1], b[2])
			return [][]byte{c}
		}},
		{Name: "Decrypt", Take: [][]byte{dk, c}, Do: func(b [][]byte) [][]byte {
			m, _ := kpke.Decrypt(b[0], b[1])
			return [][]byte{m}
		}},
		{Name: "Encode", Take: nil, Do: func([][]byte) [][]byte { return [][]byte{kpke.Encode(7, alternate(3, math.MinInt))} }},
	}
}

// P3: lists that are handed in are neither changed nor kept, nor is their spare room, with an answer as with an error.
func TestListsHandedIn(t *testing.T) {
	calls(t).WantLent(t)
}

// P3: lists that come out are new memory, their spare room too; to change one changes no other one, and no later answer.
func TestListsThatComeOut(t *testing.T) {
	calls(t).WantNew(t)
}

// P3: one list may be handed in for two.
func TestOneListForTwo(t *testing.T) {
	ek, dk := keysOf(t, make([]byte, 32))
	m := ek[1152:]
	c := textOf(t, ek, m, m)
	trial.WantBytes(t, "the text", c, textOf(t, trial.Joined(ek), trial.Joined(m), trial.Joined(m)))
	trial.WantBytes(t, "the message", messageOf(t, dk, c), m)
}

// P3: a polynomial that is handed in is left as it was.
func TestPolynomialsHandedIn(t *testing.T) {
	for d := 1; d <= 12; d++ {
		p := alternate(math.MaxInt, -1)
		kpke.Encode(d, p)
		trial.WantPoly(t, "Encode, handed in", p, alternate(math.MaxInt, -1))
	}
}
