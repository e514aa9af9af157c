package sha2

import "math/bits"

const (
	blockBytes = 64
	wordBytes  = 4
	blockWords = blockBytes / wordBytes
	rounds     = 64
)

type state [8]uint32

var firstState = state{
	0x6a09e667, 0xbb67ae85, 0x3c6ef372, 0xa54ff53a, 0x510e527f, 0x9b05688c, 0x1f83d9ab, 0x5be0cd19,
}

// roundConstants are those of rounds 0 to 63.
var roundConstants = [rounds]uint32{
	0x428a2f98, 0x71374491, 0xb5c0fbcf, 0xe9b5dba5, 0x3956c25b, 0x59f111f1, 0x923f82a4, 0xab1c5ed5,
	0xd807aa98, 0x12835b01, 0x243185be, 0x550c7dc3, 0x72be5d74, 0x80deb1fe, 0x9bdc06a7, 0xc19bf174,
	0xe49b69c1, 0xefbe4786, 0x0fc19dc6, 0x240ca1cc, 0x2de92c6f, 0x4a7484aa, 0x5cb0a9dc, 0x76f988da,
	0x983e5152, 0xa831c66d, 0xb00327c8, 0xbf597fc7, 0xc6e00bf3, 0xd5a79147, 0x06ca6351, 0x14292967,
	0x27b70a85, 0x2e1b2138, 0x4d2c6dfc, 0x53380d13, 0x650a7354, 0x766a0abb, 0x81c2c92e, 0x92722c85,
	0xa2bfe8a1, 0xa81a664b, 0xc24b8b70, 0xc76c51a3, 0xd192e819, 0xd6990624, 0xf40e3585, 0x106aa070,
	0x19a4c116, 0x1e376c08, 0x2748774c, 0x34b0bcb5, 0x391c0cb3, 0x4ed8aa4a, 0x5b9cca4f, 0x682e6ff3,
	0x748f82ee, 0x78a5636f, 0x84c87814, 0x8cc70208, 0x90befffa, 0xa4506ceb, 0xbef9a3f7, 0xc67178f2,
}

// change has a block change the state.
func (s *state) change(block *[blockBytes]byte) {
	w := wordsOf(block)
	a, b, c, d, e, f, g, h := s[0], s[1], s[2], s[3], s[4], s[5], s[6], s[7]
	i := 0
round:
	t := h + turned(e, 6, 11, 25) + ((e & f) ^ (^e & g)) + roundConstants[i] + w[i]
	u := turned(a, 2, 13, 22) + ((a & b) ^ (a & c) ^ (b & c))
	h, g, f, e, d, c, b, a = g, f, e, d+t, c, b, a, t+u
	i++
	if i < rounds {
		goto round
	}
	for j, v := range [...]uint32{a, b, c, d, e, f, g, h} {
		s[j] += v
	}
}

// wordsOf is one word for each round: a block's own, and those made of them.
func wordsOf(block *[blockBytes]byte) [rounds]uint32 {
	var w [rounds]uint32
	for i, v := range block {
		w[i/wordBytes] = w[i/wordBytes]<<8 | uint32(v)
	}
	for i := blockWords; i < rounds; i++ {
		s0 := right(w[i-15], 7) ^ right(w[i-15], 18) ^ w[i-15]>>3
		s1 := right(w[i-2], 17) ^ right(w[i-2], 19) ^ w[i-2]>>10
		w[i] = w[i-16] + s0 + w[i-7] + s1
	}
	return w
}

// turned is what is unlike of a word that is turned by each of three.
func turned(v uint32, first, second, third int) uint32 {
	return right(v, first) ^ right(v, second) ^ right(v, third)
}

// right turns to the right, which math/bits tells as to the left by fewer than none.
func right(v uint32, by int) uint32 { return bits.RotateLeft32(v, -by) }

// told is the words as bytes.
func (s *state) told() []byte {
	out := make([]byte, 0, len(s)*wordBytes)
	for _, v := range s {
		out = append(out, byte(v>>24), byte(v>>16), byte(v>>8), byte(v))
	}
	return out
}
