package trial

import "sodality/api"

// Ring tells sums and transforms in another way than the layers do: a transform is what is left of a polynomial modulo X^Least less each root. There are 256 / Least of these, powers of Root that are odd.
type Ring struct {
	Modulus
	Root, Least int
}

func (r Ring) Add(a, b api.Poly) api.Poly {
	for i := range a {
		a[i] = r.Number(r.Number(a[i]) + r.Number(b[i]))
	}
	return a
}

func (r Ring) Sub(a, b api.Poly) api.Poly {
	for i := range a {
		a[i] = r.Number(r.Number(a[i]) - r.Number(b[i]))
	}
	return a
}

// NTT has each X^Least be the root that it stands for.
func (r Ring) NTT(p api.Poly) api.Poly {
	return r.weighed(p, func(from, to int) int { return from * r.odd(to) })
}

// Inverse sums, over all roots, what their powers taken the other way round make: as many equations as there are roots.
func (r Ring) Inverse(p api.Poly) api.Poly {
	out := r.weighed(p, func(from, to int) int { return -r.odd(from) * to })
	share := int(r.Modulus) - (int(r.Modulus)-1)/r.roots() // times all roots it is 1
	for i := range out {
		out[i] = r.Number(out[i] * share)
	}
	return out
}

// weighed has at each place the sum of all numbers, each times the power of Root that is told.
func (r Ring) weighed(p api.Poly, power func(from, to int) int) api.Poly {
	powers := r.powers()
	all := Modulus(len(powers))
	var out api.Poly
	for j, n := range r.Brought(p) {
		if n == 0 {
			continue
		}
		from, at := j/r.Least, j%r.Least
		for to := range r.roots() {
			i := to*r.Least + at
			out[i] = r.Number(out[i] + n*powers[all.Number(power(from, to))])
		}
	}
	return out
}

// Times is, root by root, the product of what a and b have there, modulo X^Least less the root.
func (r Ring) Times(a, b api.Poly) api.Poly {
	a, b = r.Brought(a), r.Brought(b)
	powers := r.powers()
	var out api.Poly
	for i := range r.roots() {
		from := i * r.Least
		for x := range r.Least {
			for y := range r.Least {
				n, at := r.Number(a[from+x]*b[from+y]), x+y
				if at >= r.Least {
					n, at = n*powers[r.odd(i)], at-r.Least
				}
				out[from+at] = r.Number(out[from+at] + n)
			}
		}
	}
	return out
}

func (r Ring) roots() int { return api.N / r.Least }

// powers are all that Root has.
func (r Ring) powers() []int {
	out := []int{1}
	for len(out) < 2*r.roots() {
		out = append(out, r.Number(out[len(out)-1]*r.Root))
	}
	return out
}

// odd tells which power of Root the root at i is: i's bits, the other way round, and behind them a 1.
func (r Ring) odd(i int) int {
	turned := 0
	for bit := 1; bit < r.roots(); bit *= 2 {
		turned *= 2
		if i&bit != 0 {
			turned++
		}
	}
	return 2*turned + 1
}
