package kpke

import (
	"iter"
	"slices"

	"sodality/api"
	"sodality/keccak"
	"sodality/small"
)

const (
	placeBytes = api.Seed + 2 // a seed, a column and a row
	noiseBytes = api.N / 2    // four bits each number

	// A block is what a sponge of SHAKE128 gives between two changes; there are 1680 bytes in all.
	blockBytes = 168
	mostBlocks = 10
	endShake   = 31
)

// candidates tells numbers of bytes that are given only when those ahead of them were too few, for most seeds need but three of the blocks.
func candidates(seed []byte) iter.Seq[int] {
	return func(yield func(int) bool) {
		s := keccak.New(blockBytes, endShake)
		s.Write(seed)
		for range mostBlocks {
			for n := range regrouped(s.Read(blockBytes), byteBits, wholeBits) {
				if !yield(n) {
					return
				}
			}
		}
	}
}

// drawn is made of the first numbers that are below q.
func drawn(numbers iter.Seq[int]) (api.Poly, api.Errno) {
	var p api.Poly
	at := 0
	for n := range numbers {
		if n >= q {
			continue
		}
		p[at] = n
		at++
		if at == len(p) {
			return p, api.OK
		}
	}
	return api.Poly{}, api.ErrDraw
}

// centred takes four bits a number: two that are added, and two that are taken away.
func centred(b []byte) api.Poly {
	var p api.Poly
	at := 0
	for four := range regrouped(b, byteBits, 4) {
		p[at] = four&1 + four>>1&1 - four>>2&1 - four>>3&1
		at++
	}
	return small.Mod(p)
}

// noise is the polynomial number n of a secret.
func noise(secret []byte, n int) api.Poly {
	return centred(keccak.Shake256(slices.Concat(secret, []byte{byte(n)}), noiseBytes))
}
