package kpke

import (
	"iter"

	"sodality/api"
)

const byteBits = 8

// regrouped tells the bits of words, each of which has so many, in groups of wanted ones, the lowest bit first.
func regrouped[W byte | int](words []W, has, wanted int) iter.Seq[int] {
	return func(yield func(int) bool) {
		bits, many := 0, 0
		for _, w := range words {
			bits |= int(w) << many
			for many += has; many >= wanted; many -= wanted {
				if !yield(lowest(wanted, bits)) {
					return
				}
				bits >>= wanted
			}
		}
	}
}

func mayBeEncoded(d int) bool { return d >= 1 && d <= wholeBits }

func encodedBytes(d int) int { return d * api.N / byteBits }

// decoded takes bytes of which there are as many as d asks for.
func decoded(d int, b []byte) api.Poly {
	var p api.Poly
	at := 0
	for n := range regrouped(b, byteBits, d) {
		p[at] = n
		at++
	}
	return brought(d, p)
}
