package trial

import (
	"math"

	"sodality/api"
)

// All is a polynomial of one number, at each place; Alone is n times X^i.
func All(n int) api.Poly {
	var p api.Poly
	for i := range p {
		p[i] = n
	}
	return p
}

func Alone(i, n int) api.Poly {
	var p api.Poly
	p[i] = n
	return p
}

// Wild is a polynomial of any numbers that an int holds: another one for each which.
func Wild(which int) api.Poly {
	const wide = 8
	b := Ordinary(wide*api.N, which)
	var p api.Poly
	for i := range p {
		for _, v := range b[wide*i : wide*(i+1)] {
			p[i] = p[i]<<8 | int(v)
		}
	}
	return p
}

// WantPoly ends a test that got something else.
func WantPoly(t T, what string, got, want api.Poly) {
	t.Helper()
	for i := range got {
		if got[i] != want[i] {
			t.Fatalf("%s: got %d at %d, want %d", what, got[i], i, want[i])
		}
	}
}

// Modulus is what the numbers of polynomials are brought below.
type Modulus int

func (q Modulus) Number(n int) int {
	n %= int(q)
	if n < 0 {
		n += int(q)
	}
	return n
}

func (q Modulus) Brought(p api.Poly) api.Poly {
	for i, n := range p {
		p[i] = q.Number(n)
	}
	return p
}

// Edges are numbers around 0, the modulus and its half, those around what 32 bits hold, and the least and the greatest.
func (q Modulus) Edges() []int {
	m, half, wide := int(q), int(q-1)/2, math.MaxInt32
	out := []int{0, math.MinInt, math.MinInt + m}
	for _, n := range []int{
		1, 2, half - 1, half, half + 1, half + 2, m - 1, m, m + 1, 2*m - 1, 2 * m, 2*m + 1,
		wide, wide + 1, wide + 2, math.MaxInt, math.MaxInt - 1, math.MaxInt - m, math.MaxInt / m * m, math.MaxInt / 2,
	} {
		out = append(out, n, -n)
	}
	return out
}

// Mixed has an edge at each place, and begins with another one for each shift.
func (q Modulus) Mixed(shift int) api.Poly {
	e := q.Edges()
	var p api.Poly
	for i := range p {
		p[i] = e[(i+shift)%len(e)]
	}
	return p
}

// Polys are polynomials of all kinds; Few are enough of them to be held against each other.
func (q Modulus) Polys() []api.Poly {
	out := []api.Poly{{}, Alone(0, 1), Alone(1, 1), Alone(255, 1), Alone(255, -1)}
	for i, n := range q.Edges() {
		out = append(out, All(n), q.Mixed(i))
	}
	for which := range 12 {
		out = append(out, Wild(which), q.Brought(Wild(100+which)))
	}
	return out
}

func (q Modulus) Few() []api.Poly {
	out := []api.Poly{{}, Alone(0, 1), Alone(255, -1), All(-1), All(int(q)), All(math.MinInt), All(math.MaxInt)}
	for which := range 3 {
		out = append(out, q.Mixed(7*which), Wild(200+which), q.Brought(Wild(300+which)))
	}
	return out
}

// Product is a times b modulo X^256 + 1, as one learns it at school.
func (q Modulus) Product(a, b api.Poly) api.Poly {
	a, b = q.Brought(a), q.Brought(b)
	var long [2 * api.N]int
	for i, x := range a {
		for j, y := range b {
			long[i+j] += x * y
		}
	}
	var p api.Poly
	for i := range p {
		p[i] = q.Number(long[i] - long[i+api.N])
	}
	return p
}
