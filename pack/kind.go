package pack

import (
	"slices"

	"sodality/api"
)

func mayBePacked(d int) bool { return d >= 1 && d <= mostBits }

func within(least, most int, all ...api.Poly) bool {
	for _, p := range all {
		if slices.ContainsFunc(p[:], func(n int) bool { return n < least || n > most }) {
			return false
		}
	}
	return true
}

func areSmall(k api.Secret) bool {
	return within(-smallMost, smallMost, k.S1[:]...) && within(-smallMost, smallMost, k.S2[:]...)
}

// itself and lessThan say what of a number is put, and what number it is again when it is got.
func itself(n int) int { return n }

func lessThan(most int) func(n int) int {
	return func(n int) int { return most - n }
}

// put is the bytes of polynomials of one kind, one behind the other: so many bits of what the closure says of each number.
func put(bits int, what func(n int) int, all ...api.Poly) []byte {
	out := make([]byte, len(all)*polyBytes(bits))
	for k, p := range all {
		for i, n := range p {
			write(out, bits, k*api.N+i, what(n))
		}
	}
	return out
}

// got are the polynomials of such bytes.
func got(bits int, what func(n int) int, b []byte) []api.Poly {
	out := make([]api.Poly, len(b)/polyBytes(bits))
	for k := range out {
		for i := range out[k] {
			out[k][i] = what(read(b, bits, k*api.N+i))
		}
	}
	return out
}

// taker is a function that takes as many bytes of b as it is asked for, in new memory, and then goes on behind them.
func taker(b []byte) func(n int) []byte {
	return func(n int) []byte {
		part := slices.Clone(b[:n])
		b = b[n:]
		return part
	}
}
