package ratchet_test

import (
	"testing"

	"sodality/api"
	"sodality/ratchet"
	"sodality/trial"
)

// P17.1 (V1): New of secrets, and of what is none.
func TestNew(t *testing.T) {
	for _, secret := range trial.Seeds(32, 5) {
		r := ratchet.New(secret)
		wantRatchet(t, "New", r, api.Ratchet{Secret: secret})
		wantRight(t, "New", r, true)
	}
	for _, n := range append(trial.Around(32), 256+32) {
		r := ratchet.New(trial.Ordinary(n, 1))
		wantRatchet(t, "New of what is no secret", r, api.Ratchet{})
		wantRight(t, "New of what is no secret", r, false)
	}
	wantRatchet(t, "New of nil", ratchet.New(nil), api.Ratchet{})
}

// P17.1 (V1): what is right, at all edges of its number and of how many are Kept.
func TestRight(t *testing.T) {
	for _, r := range rights() {
		wantRight(t, "a right one", r, true)
	}
	for many := range maxKept + 1 {
		wantRight(t, "with so many Kept", withKept(100, many), true)
		wantRight(t, "with all that it passed by Kept", withKept(int64(many), many), true)
	}
	wantRight(t, "Kept that is empty", changed(ratchetOf(3), func(r *api.Ratchet) { r.Kept = []api.Kept{} }), true)
}

// P17.1 (V1): what is not right, each by one thing.
func TestNotRight(t *testing.T) {
	for _, x := range wrongs() {
		wantRight(t, x.name, x.r, false)
	}
}

// P17.1 (V1): all rows of up to three numbers Kept, around 0 and around Gen.
func TestRightOfAllRows(t *testing.T) {
	rights := 0
	for gen := range int64(4) {
		for _, kept := range rowsOf(-1, gen+1, 3) {
			r := ratchetOf(gen, kept...)
			wantRight(t, "a row", r, plainRight(r))
			if plainRight(r) {
				rights++
			}
		}
	}
	trial.WantNumber(t, "how many are right: each choice of the numbers below Gen", rights, 1+2+4+8)
}

// rowsOf are all of at most so many numbers, from the least to the most.
func rowsOf(least, most int64, many int) [][]int64 {
	out := [][]int64{nil}
	if many == 0 {
		return out
	}
	for _, row := range rowsOf(least, most, many-1) {
		for n := least; n <= most; n++ {
			out = append(out, append(row[:len(row):len(row)], n))
		}
	}
	return out
}

// P17.1 (V2, V3), P2: Next and Take of what is not right, whatever number is asked for: ErrArg goes ahead of all other errors.
func TestOfNotRight(t *testing.T) {
	for _, x := range wrongs() {
		wantNoNext(t, x.name, x.r, api.ErrArg)
		asked := []int64{0, 1, 3, 5, 20, -1, maxGen - 1, maxGen, maxGen + 1, maxGen + maxSkip + 1, x.r.Gen, x.r.Gen - 1, x.r.Gen + 1, x.r.Gen + maxSkip + 1}
		for _, k := range x.r.Kept[:min(len(x.r.Kept), 20)] {
			asked = append(asked, k.Gen)
		}
		for _, gen := range asked {
			wantNotTaken(t, x.name, x.r, gen, api.ErrArg)
		}
	}
}
