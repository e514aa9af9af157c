package ratchet_test

import (
	"crypto/hmac"
	"crypto/sha256"
	"encoding/binary"
	"math"
	"slices"

	"sodality/api"
	"sodality/trial"
)

const (
	maxGen  = 1 << 30
	maxSkip = 8
	maxKept = 16
	maxDeep = 16
)

// What follows tells the chapter's words in another way, with the language's own HMAC and SHA-256. plainLabel is a key of 32 bytes, the one piece that there is of it.
func plainLabel(key []byte, label string, context []byte) []byte {
	h := hmac.New(sha256.New, key)
	h.Write(trial.Joined([]byte{0, 32}, trial.TextBytes([]byte("GKA 1.0 "+label)), trial.TextBytes(context), []byte{1}))
	return h.Sum(nil)
}

// plainSecret halves the leaves till the one is left.
func plainSecret(encrypt []byte, deep, leaf int) []byte {
	secret := slices.Clone(encrypt)
	for p := trial.Whole(deep); p.Many > 1; {
		side := "left"
		left, right := p.Halves()
		p = left
		if right.Has(leaf) {
			p, side = right, "right"
		}
		secret = plainLabel(secret, "tree", []byte(side))
	}
	return secret
}

func numberBytes(gen int64) []byte { return binary.BigEndian.AppendUint32(nil, uint32(gen)) }

func plainKey(secret []byte, gen int64) []byte {
	return plainLabel(secret, "key", numberBytes(gen))
}

func plainBehind(secret []byte, gen int64) []byte {
	return plainLabel(secret, "next", numberBytes(gen))
}

// plainSecrets are so many of a ratchet's, from that of its own number on.
func plainSecrets(r api.Ratchet, many int) [][]byte {
	out := [][]byte{r.Secret}
	for len(out) < many {
		at := len(out) - 1
		out = append(out, plainBehind(out[at], r.Gen+int64(at)))
	}
	return out
}

// plainChain are so many of a ratchet's keys, from its own number on.
func plainChain(r api.Ratchet, many int) []api.Kept {
	var out []api.Kept
	for i, secret := range plainSecrets(r, many) {
		gen := r.Gen + int64(i)
		out = append(out, api.Kept{Gen: gen, Key: plainKey(secret, gen)})
	}
	return out
}

func plainRight(r api.Ratchet) bool {
	rises := true
	for i, k := range r.Kept {
		rises = rises && len(k.Key) == 32 && k.Gen > -1 && k.Gen <= r.Gen-1
		for _, other := range r.Kept[i+1:] {
			rises = rises && k.Gen < other.Gen
		}
	}
	return rises && len(r.Kept) < 17 && len(r.Secret) == 32 && r.Gen > -1 && r.Gen < 1073741825
}

// plainErr is what Take of a right ratchet's number is refused with.
func plainErr(r api.Ratchet, gen int64) api.Errno {
	isKept := slices.ContainsFunc(r.Kept, func(k api.Kept) bool { return k.Gen == gen })
	switch {
	case isKept:
		return api.OK
	case gen < r.Gen:
		return api.ErrUsed
	case gen > r.Gen+maxSkip:
		return api.ErrFar
	case gen > maxGen-1:
		return api.ErrTooMany
	}
	return api.OK
}

// plainTaken puts all keys up to the number in one row, takes that of the number out of it, and leaves the last ones: of a right ratchet that has it.
func plainTaken(r api.Ratchet, gen int64) (api.Ratchet, []byte) {
	out, row := r, slices.Clone(r.Kept)
	if gen >= r.Gen {
		many := int(gen-r.Gen) + 1
		row = append(row, plainChain(r, many)...)
		out.Gen, out.Secret = gen+1, plainSecrets(r, many+1)[many]
	}
	at := slices.IndexFunc(row, func(k api.Kept) bool { return k.Gen == gen })
	key := row[at].Key
	row = slices.Concat(row[:at], row[at+1:])
	for len(row) > maxKept {
		row = row[1:]
	}
	out.Kept = row
	return out, key
}

// ratchetOf is one that stands at a number, and has kept keys of those numbers that are told.
func ratchetOf(gen int64, kept ...int64) api.Ratchet {
	out := api.Ratchet{Gen: gen, Secret: trial.Ordinary(32, int(gen%65536))}
	for _, k := range kept {
		out.Kept = append(out.Kept, api.Kept{Gen: k, Key: trial.Ordinary(32, int(k%65536)+7)})
	}
	return out
}

// withKept has kept so many of the numbers below its own, each second one as long as there are enough.
func withKept(gen int64, many int) api.Ratchet {
	var kept []int64
	step := int64(2)
	if int64(2*many) > gen {
		step = 1
	}
	for i := range many {
		kept = append(kept, gen-step*int64(many-i))
	}
	return ratchetOf(gen, kept...)
}

// gens are numbers at which ratchets stand: edges of a number's bytes, and of what may be, among them.
func gens() []int64 {
	return []int64{0, 1, 2, 7, 8, 9, 16, 17, 255, 256, 65535, 65536, 1<<24 - 1, 1 << 24, maxGen - 10, maxGen - 9, maxGen - 8, maxGen - 2, maxGen - 1, maxGen}
}

// rights are right ratchets: each number with as many Kept as may be, and fewer.
func rights() []api.Ratchet {
	var out []api.Ratchet
	for _, gen := range gens() {
		for _, many := range []int{0, 1, 2, 8, 9, 15, 16} {
			if int64(many) <= gen {
				out = append(out, withKept(gen, many))
			}
		}
	}
	return append(out, ratchetOf(maxGen, 0, 1, 65536, maxGen-2, maxGen-1), ratchetOf(1<<20, 0), ratchetOf(1<<20, 1<<20-1), ratchetOf(16, 0, 1, 2, 3, 4, 5, 6, 7, 8, 9, 10, 11, 12, 13, 14, 15))
}

// spoilt is a ratchet that is not right, by one thing alone.
type spoilt struct {
	name string
	r    api.Ratchet
}

func changed(r api.Ratchet, change func(r *api.Ratchet)) api.Ratchet {
	out := copied(r)
	change(&out)
	return out
}

// copied shares no memory with a ratchet.
func copied(r api.Ratchet) api.Ratchet {
	out := api.Ratchet{Gen: r.Gen, Secret: slices.Clone(r.Secret), Kept: slices.Clone(r.Kept)}
	for i, k := range r.Kept {
		out.Kept[i].Key = slices.Clone(k.Key)
	}
	return out
}

func wrongs() []spoilt {
	return slices.Concat([]spoilt{{"nothing", api.Ratchet{}}, {"nothing that is not nil", api.Ratchet{Secret: []byte{}, Kept: []api.Kept{}}}}, wrongGens(), wrongSecrets(), wrongMany(), wrongOrders(), wrongKeys())
}

func wrongGens() []spoilt {
	var out []spoilt
	for _, gen := range []int64{-1, -2, -maxGen, math.MinInt64, maxGen + 1, maxGen + 2, 1 << 31, 1<<32 - 1, 1 << 32, 1<<32 + 1, math.MaxInt64} {
		for _, r := range []api.Ratchet{ratchetOf(0), ratchetOf(20, 3, 5)} {
			out = append(out, spoilt{"a Gen that may not be", changed(r, func(r *api.Ratchet) { r.Gen = gen })})
		}
	}
	return out
}

func wrongSecrets() []spoilt {
	var out []spoilt
	for _, n := range []int{0, 1, 16, 31, 33, 64, 256 + 32, 65536 - 32} {
		for _, r := range []api.Ratchet{ratchetOf(0), ratchetOf(maxGen), ratchetOf(20, 3, 5)} {
			out = append(out, spoilt{"a Secret's bytes", changed(r, func(r *api.Ratchet) { r.Secret = trial.Ordinary(n, 1) })})
		}
	}
	return append(out, spoilt{"no Secret", changed(ratchetOf(20, 3, 5), func(r *api.Ratchet) { r.Secret = nil })})
}

func wrongMany() []spoilt {
	var out []spoilt
	for _, many := range []int{17, 18, 24, 32, 256, 256 + 16, 1000} {
		for _, gen := range []int64{int64(many), 5000, maxGen} {
			out = append(out, spoilt{"too many Kept", withKept(gen, many)})
		}
	}
	return out
}

func wrongOrders() []spoilt {
	var out []spoilt
	add := func(name string, all ...[]int64) {
		for _, kept := range all {
			out = append(out, spoilt{name, ratchetOf(20, kept...)})
		}
	}
	add("they fall", []int64{5, 3}, []int64{19, 0}, []int64{1, 3, 2}, []int64{2, 1, 3}, []int64{3, 1, 2}, []int64{2, 3, 1}, []int64{3, 2, 1}, []int64{0, 2, 4, 6, 5, 8}, []int64{15, 14, 13, 12, 11, 10, 9, 8, 7, 6, 5, 4, 3, 2, 1, 0})
	add("one is there twice", []int64{0, 0}, []int64{5, 5}, []int64{19, 19}, []int64{1, 1, 3}, []int64{1, 3, 3}, []int64{1, 3, 1}, []int64{0, 0, 0})
	add("below 0", []int64{-1}, []int64{-1, 3}, []int64{-2, -1}, []int64{math.MinInt64}, []int64{math.MinInt64, 0, 5}, []int64{-1 << 32}, []int64{3, -1})
	add("Gen itself", []int64{20}, []int64{3, 20}, []int64{3, 5, 20})
	add("above Gen", []int64{21}, []int64{3, 21}, []int64{3, 5, 1 << 20}, []int64{maxGen}, []int64{1<<32 + 3}, []int64{math.MaxInt64}, []int64{21, 22}, []int64{19, 20, 21})
	return append(out, spoilt{"0 of 0", ratchetOf(0, 0)}, spoilt{"above 0", ratchetOf(0, 5)}, spoilt{"below 0, of 0", ratchetOf(0, -1)}, spoilt{"as many as may be", ratchetOf(maxGen, maxGen)}, spoilt{"more than may be", ratchetOf(maxGen, maxGen+1)})
}

func wrongKeys() []spoilt {
	var out []spoilt
	for _, n := range []int{0, 1, 16, 31, 33, 64, 256 + 32} {
		for _, r := range []api.Ratchet{ratchetOf(20, 3), withKept(40, 16)} {
			for at := range r.Kept {
				out = append(out, spoilt{"a Key's bytes", changed(r, func(r *api.Ratchet) { r.Kept[at].Key = trial.Ordinary(n, 2) })})
			}
		}
	}
	return append(out, spoilt{"no Key", changed(ratchetOf(20, 3, 5), func(r *api.Ratchet) { r.Kept[1].Key = nil })}, spoilt{"no Keys", changed(withKept(40, 16), func(r *api.Ratchet) { r.Kept = make([]api.Kept, 1) })})
}
