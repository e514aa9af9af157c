package kpke_test

import (
	"math"
	"math/rand"
	"testing"

	"sodality/api"
	"sodality/kpke"
)

// lent is a list of n bytes with more ahead of it, and spare room behind it; all of it must stay as it was.
type lent struct {
	room, was []byte
	n         int
}

func lend(b []byte) *lent {
	r := rand.New(rand.NewSource(56))
	room := joined(random(r, 64), b, random(r, 64))
	return &lent{room, joined(room), len(b)}
}

func (l *lent) list() []byte { return l.room[64 : 64+l.n] }

func (l *lent) want(t *testing.T, what string) {
	t.Helper()
	wantBytes(t, what+", handed in", l.room, l.was)
}

// call is one that takes lists, and answers lists and polynomials as bytes.
type call struct {
	name string
	take [][]byte
	do   func(b [][]byte) [][]byte
}

func calls(t *testing.T) []call {
	seed := seedsOf(32, 1)[2]
	ek, dk := keysOf(t, seed)
	c := textOf(t, ek, seed, seed)
	poly := func(p api.Poly, _ api.Errno) [][]byte { return [][]byte{plainEncode(12, p)} }
	return []call{
		{"Uniform", [][]byte{joined(seed, []byte{1, 2})}, func(b [][]byte) [][]byte { return poly(kpke.Uniform(b[0])) }},
		{"Centred", [][]byte{joined(seed, seed, seed, seed)}, func(b [][]byte) [][]byte { return poly(kpke.Centred(b[0])) }},
		{"Decode", [][]byte{dk[:384]}, func(b [][]byte) [][]byte { return poly(kpke.Decode(12, b[0])) }},
		{"Keys", [][]byte{seed}, func(b [][]byte) [][]byte {
			ek, dk, _ := kpke.Keys(b[0])
			return [][]byte{ek, dk}
		}},
		{"Encrypt", [][]byte{ek, seed, ek[:32]}, func(b [][]byte) [][]byte {
			c, _ := kpke.Encrypt(b[0], b[1], b[2])
			return [][]byte{c}
		}},
		{"Decrypt", [][]byte{dk, c}, func(b [][]byte) [][]byte {
			m, _ := kpke.Decrypt(b[0], b[1])
			return [][]byte{m}
		}},
		{"Encode", nil, func([][]byte) [][]byte { return [][]byte{kpke.Encode(7, alternate(3, math.MinInt))} }},
	}
}

// P3: lists that are handed in are neither changed nor kept, nor is their spare room, with an answer as with an error.
func TestListsHandedIn(t *testing.T) {
	for _, c := range calls(t) {
		for _, short := range []int{0, 1} {
			var all []*lent
			var lists [][]byte
			for _, b := range c.take {
				l := lend(b[short:])
				all, lists = append(all, l), append(lists, l.list())
			}
			first := c.do(lists)
			for _, l := range all {
				l.want(t, c.name)
			}
			kept := joined(first...)
			for _, l := range all {
				clear(l.room)
			}
			wantBytes(t, c.name+", behind a change of what was handed in", joined(first...), kept)
		}
	}
}

// P3: lists that come out are new memory, their spare room too; to change one changes no other one, and no later answer.
func TestListsThatComeOut(t *testing.T) {
	for _, c := range calls(t) {
		first, again := c.do(c.take), c.do(c.take)
		kept := joined(again...)
		wantBytes(t, c.name+", asked anew", joined(first...), kept)
		for i, b := range first {
			clear(b[:cap(b)])
			for j := i + 1; j < len(first); j++ {
				wantBytes(t, c.name+", behind a change of another list", first[j], again[j])
			}
		}
		wantBytes(t, c.name+", behind a change of what came out", joined(again...), kept)
		wantBytes(t, c.name+", asked once more", joined(c.do(c.take)...), kept)
	}
}

// P3: one list may be handed in for two.
func TestOneListForTwo(t *testing.T) {
	ek, dk := keysOf(t, make([]byte, 32))
	m := ek[1152:]
	c := textOf(t, ek, m, m)
	wantBytes(t, "the text", c, textOf(t, joined(ek), joined(m), joined(m)))
	wantBytes(t, "the message", messageOf(t, dk, c), m)
}

// P3: a polynomial that is handed in is left as it was.
func TestPolynomialsHandedIn(t *testing.T) {
	for d := 1; d <= 12; d++ {
		p := alternate(math.MaxInt, -1)
		kpke.Encode(d, p)
		wantPoly(t, "Encode, handed in", p, alternate(math.MaxInt, -1))
	}
}
