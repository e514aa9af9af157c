package kpke

import (
	"sodality/api"
	"sodality/small"
)

func mayBeSqueezed(d int) bool { return d >= 1 && d <= mostSqueezed }

// squeezing and stretching are what is done to a polynomial, number by number.
func squeezing(d int) func(p api.Poly) api.Poly {
	return changing(func(n int) int { return Squeeze(d, n) })
}

func stretching(d int) func(p api.Poly) api.Poly {
	return changing(func(n int) int { return Stretch(d, n) })
}

func changing(change func(n int) int) func(p api.Poly) api.Poly {
	return func(p api.Poly) api.Poly {
		for i, n := range p {
			p[i] = change(n)
		}
		return p
	}
}

// brought has each number be one that d bits tell.
func brought(d int, p api.Poly) api.Poly {
	if d == wholeBits {
		return small.Mod(p)
	}
	return changing(func(n int) int { return lowest(d, n) })(p)
}

// number and lowest have no branch, so that how long they take does not tell a secret number.
func number(n int) int { return (n%q + q) % q }

// lowest is n modulo 2^d, of numbers below 0 too.
func lowest(d int, n int) int { return n & (1<<d - 1) }
