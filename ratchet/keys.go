package ratchet

import (
	"slices"

	"sodality/api"
	"sodality/hkdf"
	"sodality/spot"
	"sodality/wire"
)

const (
	keyBytes    = 32 // of a secret too
	numberBytes = 4
)

// towards is the spot below that is over the leaf, and which side it is on.
func towards(s complex128, leaf int) (complex128, string) {
	if right := spot.Down(s, true); spot.Over(right, leaf) {
		return right, "right"
	}
	return spot.Down(s, false), "left"
}

func secretOf(above []byte, side string) []byte {
	return hkdf.Label(above, "tree", []byte(side), keyBytes)
}

// areRight: do their numbers rise, from 0 or more, below gen, and may all of them be keys?
func areRight(kept []api.Kept, gen int64) bool {
	last := int64(-1)
	for _, k := range kept {
		if k.Gen <= last || k.Gen >= gen || len(k.Key) != keyBytes {
			return false
		}
		last = k.Gen
	}
	return true
}

// stepped is a right ratchet that has gone on by one, and the key of the number that it stood at.
func stepped(r api.Ratchet) (api.Ratchet, []byte) {
	number := wire.Number(r.Gen, numberBytes)
	next := copied(r)
	next.Gen++
	next.Secret = hkdf.Label(r.Secret, "next", number, keyBytes)
	return next, hkdf.Label(r.Secret, "key", number, keyBytes)
}

// passedOver is a right ratchet that has gone on to gen, and kept the keys on the way.
func passedOver(r api.Ratchet, gen int64) api.Ratchet {
	for r.Gen < gen {
		next, key := stepped(r)
		next.Kept = lastOf(append(next.Kept, api.Kept{Gen: r.Gen, Key: key}))
		r = next
	}
	return r
}

// lastOf are as many as may be kept.
func lastOf(kept []api.Kept) []api.Kept {
	return kept[max(0, len(kept)-api.MaxKept):]
}

// takeKept is for numbers that a right ratchet has passed by.
func takeKept(r api.Ratchet, gen int64) (api.Ratchet, []byte, api.Errno) {
	at := slices.IndexFunc(r.Kept, func(k api.Kept) bool { return k.Gen == gen })
	if at < 0 {
		return api.Ratchet{}, nil, api.ErrUsed
	}
	rest := copied(r)
	key := rest.Kept[at].Key
	rest.Kept = slices.Delete(rest.Kept, at, at+1)
	return rest, key, api.OK
}

// copied shares no memory with r, so that whoever wipes the one still has the other.
func copied(r api.Ratchet) api.Ratchet {
	out := api.Ratchet{Gen: r.Gen, Secret: slices.Clone(r.Secret)}
	for _, k := range r.Kept {
		out.Kept = append(out.Kept, api.Kept{Gen: k.Gen, Key: slices.Clone(k.Key)})
	}
	return out
}
