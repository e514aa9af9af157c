package mldsa

import (
	"sodality/keccak"
	"sodality/pack"
)

const (
	secretBytes = 64
	sumBytes    = 64
	numberBytes = 2
	highBits    = 4
)

// sum is n bytes of SHAKE256 of all parts, one behind the other. They are written one by one, since a message may be long.
func sum(n int, parts ...[]byte) []byte {
	s := keccak.New(rateShake256, endShake)
	for _, b := range parts {
		s.Write(b)
	}
	return s.Read(n)
}

// twoBytes is a number, the lower byte first.
func twoBytes(n int) []byte { return []byte{byte(n), byte(n >> byteBits)} }

// messageSum is that of a message and a context, for a public key that has the sum tr. The context's length stands ahead of both: cut elsewhere, they have another sum.
func messageSum(tr, message, context []byte) []byte {
	return sum(sumBytes, tr, []byte{0, byte(len(context))}, context, message)
}

// challenge is the C of a signature.
func challenge(mu []byte, w1 column) []byte {
	parts := [][]byte{mu}
	for _, p := range w1 {
		parts = append(parts, pack.Pack(highBits, p))
	}
	return sum(challengeBytes, parts...)
}
