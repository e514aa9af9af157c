package pack_test

import (
	"math/big"
	"slices"

	"sodality/api"
	"sodality/trial"
)

// What stands here tells the chapter a second time: a polynomial's bytes are one great number, of which the first place is the lowest.

func plainPack(d int, p api.Poly) []byte {
	great := new(big.Int)
	for _, n := range slices.Backward(p[:]) {
		great.Lsh(great, uint(d))
		great.Add(great, big.NewInt(int64(n)))
	}
	b := great.FillBytes(make([]byte, 32*d))
	slices.Reverse(b)
	return b
}

func plainUnpack(d int, b []byte) api.Poly {
	b = slices.Clone(b)
	slices.Reverse(b)
	great, end := new(big.Int).SetBytes(b), big.NewInt(1<<d)
	var p api.Poly
	for i := range p {
		p[i] = int(new(big.Int).Mod(great, end).Int64())
		great.Rsh(great, uint(d))
	}
	return p
}

// plainLess is n less each number.
func plainLess(n int, p api.Poly) api.Poly {
	for i := range p {
		p[i] = n - p[i]
	}
	return p
}

func plainPublic(k api.Public) []byte {
	out := trial.Joined(k.Rho)
	for _, p := range k.T1 {
		out = append(out, plainPack(10, p)...)
	}
	return out
}

func plainSecret(k api.Secret) []byte {
	out := trial.Joined(k.Rho, k.Key, k.Tr)
	for _, p := range k.S1 {
		out = append(out, plainPack(4, plainLess(4, p))...)
	}
	for _, p := range k.S2 {
		out = append(out, plainPack(4, plainLess(4, p))...)
	}
	for _, p := range k.T0 {
		out = append(out, plainPack(13, plainLess(4096, p))...)
	}
	return out
}

func plainSignature(s api.Signature) []byte {
	out := trial.Joined(s.C)
	for _, p := range s.Z {
		out = append(out, plainPack(20, plainLess(524288, p))...)
	}
	return append(out, plainHints(s.H)...)
}

// plainHints takes polynomials that have 55 ones at most.
func plainHints(h [6]api.Poly) []byte {
	out := make([]byte, 61)
	many := 0
	for k, p := range h {
		for place := range 256 {
			if p[place] == 1 {
				out[many] = byte(place)
				many++
			}
		}
		out[55+k] = byte(many)
	}
	return out
}
