package mldsa

import (
	"sodality/api"
	"sodality/round"
)

// numbers is the polynomial whose number i is of(i).
func numbers(of func(i int) int) api.Poly {
	var p api.Poly
	for i := range p {
		p[i] = of(i)
	}
	return p
}

func itself(n int) int { return n }

func lessThan(most int) func(n int) int {
	return func(n int) int { return most - n }
}

// held and dropped are what a public key has of t, and what it has not; heldWhole is as much as held stands for.
func held(t api.Poly) api.Poly {
	return numbers(func(i int) int {
		high, _ := round.Power2(t[i])
		return high
	})
}

func dropped(t api.Poly) api.Poly {
	return numbers(func(i int) int {
		_, low := round.Power2(t[i])
		return low
	})
}

func heldWhole(t1 api.Poly) api.Poly {
	return numbers(func(i int) int { return t1[i] << api.DsaDrop })
}

// highs and lows are the parts of w that hints are about.
func highs(w api.Poly) api.Poly {
	return numbers(func(i int) int {
		high, _ := round.Parts(w[i])
		return high
	})
}

func lows(w api.Poly) api.Poly {
	return numbers(func(i int) int {
		_, low := round.Parts(w[i])
		return low
	})
}

// hinted is 1 where the high part of v is another one than that of v and u; used are the high parts of v that hints of v and u tell.
func hinted(u, v api.Poly) api.Poly {
	return numbers(func(i int) int {
		if round.Hint(-u[i], v[i]+u[i]) {
			return 1
		}
		return 0
	})
}

func used(hints, w api.Poly) api.Poly {
	return numbers(func(i int) int { return round.Use(hints[i] == 1, w[i]) })
}
