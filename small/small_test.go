package small_test

import (
	"math"
	"math/rand"
	"testing"

	"sodality/api"
	"sodality/small"
)

// edges are numbers around the modulus, and the least and the greatest.
func edges() []int {
	return []int{
		0, 1, 2, q - 1, q, q + 1, 2*q - 1, 2 * q, 2*q + 1,
		-1, -2, -q + 1, -q, -q - 1, -2*q + 1, -2 * q, -2*q - 1,
		math.MaxInt32, math.MinInt32, math.MaxInt32 + 1, math.MinInt32 - 1,
		math.MaxInt, math.MaxInt - 1, math.MinInt, math.MinInt + 1,
		math.MaxInt - q, math.MinInt + q, math.MaxInt / 2, math.MinInt / 2,
	}
}

// all is a polynomial of one number, 256 times.
func all(n int) api.Poly {
	var p api.Poly
	for i := range p {
		p[i] = n
	}
	return p
}

// alone is n times X^i.
func alone(i, n int) api.Poly {
	var p api.Poly
	p[i] = n
	return p
}

// ordinary has numbers from 0 to q - 1, wild ones of any size.
func ordinary(r *rand.Rand) api.Poly {
	var p api.Poly
	for i := range p {
		p[i] = r.Intn(q)
	}
	return p
}

func wild(r *rand.Rand) api.Poly {
	var p api.Poly
	for i := range p {
		p[i] = int(r.Uint64())
	}
	return p
}

// mixed has an edge at each place, beginning with another one for each shift.
func mixed(shift int) api.Poly {
	var p api.Poly
	e := edges()
	for i := range p {
		p[i] = e[(i+shift)%len(e)]
	}
	return p
}

// polys are ordinary polynomials, and those of the edges.
func polys() []api.Poly {
	r := rand.New(rand.NewSource(4))
	out := []api.Poly{{}, alone(0, 1), alone(1, 1), alone(255, 1), alone(255, -1)}
	for _, n := range edges() {
		out = append(out, all(n))
	}
	for i := range len(edges()) {
		out = append(out, mixed(i))
	}
	for range 12 {
		out = append(out, ordinary(r), wild(r))
	}
	return out
}

// few are enough of them to be held against each other.
func few() []api.Poly {
	r := rand.New(rand.NewSource(5))
	return []api.Poly{
		{}, alone(0, 1), alone(255, -1), all(-1), all(q), all(math.MinInt), all(math.MaxInt),
		mixed(0), mixed(7), mixed(16), ordinary(r), ordinary(r), wild(r), wild(r),
	}
}

// single are the calls of one polynomial, with what they are by another way; double those of two.
func single() map[string][2]func(p api.Poly) api.Poly {
	return map[string][2]func(p api.Poly) api.Poly{
		"Mod":     {small.Mod, plainBrought},
		"NTT":     {small.NTT, plainNTT},
		"Inverse": {small.Inverse, plainInverse},
	}
}

func double() map[string][2]func(a, b api.Poly) api.Poly {
	return map[string][2]func(a, b api.Poly) api.Poly{
		"Add":   {small.Add, plainAdd},
		"Sub":   {small.Sub, plainSub},
		"Times": {small.Times, plainPairs},
	}
}

func plainAdd(a, b api.Poly) api.Poly {
	return plainNumbers(func(i int) int { return plainMod(a[i]) + plainMod(b[i]) })
}

func plainSub(a, b api.Poly) api.Poly {
	return plainNumbers(func(i int) int { return plainMod(a[i]) - plainMod(b[i]) })
}

func wantPoly(t *testing.T, what string, got, want api.Poly) {
	t.Helper()
	for i := range got {
		if got[i] != want[i] {
			t.Fatalf("%s: got %d at %d, want %d", what, got[i], i, want[i])
		}
	}
}

// P4.1: the chapter's examples.
func TestExamples(t *testing.T) {
	f := small.NTT(api.Poly{1})
	for i, n := range f {
		if n != 1-i%2 {
			t.Errorf("NTT(1, 0 ..): got %d at %d", n, i)
		}
	}
	if got := small.Mod(api.Poly{-1}); got != (api.Poly{3328}) {
		t.Errorf("Mod(-1, 0 ..): got %v", got)
	}
}

// P4.1: the published table of the roots: those of X^2 transformed are the roots themselves, each with its opposite behind it.
func TestPublishedRoots(t *testing.T) {
	roots := [64]int{
		17, 2761, 583, 2649, 1637, 723, 2288, 1100, 1409, 2662, 3281, 233, 756, 2156, 3015, 3050,
		1703, 1651, 2789, 1789, 1847, 952, 1461, 2687, 939, 2308, 2437, 2388, 733, 2337, 268, 641,
		1584, 2298, 2037, 3220, 375, 2549, 2090, 1645, 1063, 319, 2773, 757, 2099, 561, 2466, 2594,
		2804, 1092, 403, 1026, 1143, 2150, 2775, 886, 1722, 1212, 1874, 1029, 2110, 2935, 885, 2154,
	}
	var even, odd api.Poly
	for i, g := range roots {
		even[4*i], even[4*i+2] = g, q-g
		odd[4*i+1], odd[4*i+3] = g, q-g
	}
	wantPoly(t, "NTT of X^2", small.NTT(alone(2, 1)), even)
	wantPoly(t, "NTT of X^3", small.NTT(alone(3, 1)), odd)
	wantPoly(t, "X times X, by pairs", small.Times(small.NTT(alone(1, 1)), small.NTT(alone(1, 1))), even)
}

// P4.1: each call of one polynomial is what it is by another way, and so of what it answers.
func TestCallsOfOne(t *testing.T) {
	for name, call := range single() {
		for _, p := range polys() {
			wantPoly(t, name, call[0](p), call[1](p))
			wantPoly(t, name+" twice", call[0](call[0](p)), call[1](call[1](p)))
		}
	}
}

// P4.1: each call of two.
func TestCallsOfTwo(t *testing.T) {
	for name, call := range double() {
		for _, a := range few() {
			for _, b := range polys() {
				wantPoly(t, name, call[0](a, b), call[1](a, b))
				wantPoly(t, name+", the other way round", call[0](b, a), call[1](b, a))
			}
		}
	}
}

// P4.1: each edge with each other one, in one argument and in the other, at one place and at the one beside it.
func TestEdgesAgainstEdges(t *testing.T) {
	for name, call := range double() {
		for _, x := range edges() {
			for _, y := range edges() {
				a, b := all(x), all(y)
				wantPoly(t, name, call[0](a, b), call[1](a, b))
				for i := range a {
					if i%2 == 0 {
						a[i], b[i] = y, x
					}
				}
				wantPoly(t, name+", by turns", call[0](a, b), call[1](a, b))
			}
		}
	}
}

// P4.1: a polynomial of one number alone, at each place, of each edge.
func TestOneNumberAlone(t *testing.T) {
	for i := range 256 {
		for name, call := range single() {
			p := alone(i, 1)
			wantPoly(t, name, call[0](p), call[1](p))
		}
		for _, n := range edges() {
			one, p := alone(i, plainMod(n)), alone(i, n)
			wantPoly(t, "Mod", small.Mod(p), one)
			wantPoly(t, "Add", small.Add(p, alone(i, 1)), alone(i, (one[i]+1)%q))
			wantPoly(t, "Sub", small.Sub(alone(i, 1), p), alone(i, (1-one[i]+q)%q))
			wantPoly(t, "NTT", small.NTT(p), small.NTT(one))
			wantPoly(t, "Inverse", small.Inverse(p), small.Inverse(one))
			wantPoly(t, "Times", small.Times(p, all(1)), small.Times(one, all(1)))
			wantPoly(t, "Times, the other way round", small.Times(all(1), p), small.Times(all(1), one))
		}
	}
}

// P4.1: a multiple of q more or less changes no answer, and all answers are from 0 to q - 1.
func TestMultiplesOfTheModulus(t *testing.T) {
	r := rand.New(rand.NewSource(6))
	a, b := ordinary(r), ordinary(r)
	for _, more := range []int{q, -q, 7 * q, -7 * q, math.MaxInt/q*q - q, math.MinInt / q * q} {
		x, y := a, b
		for i := range x {
			x[i], y[i] = a[i]+more, b[i]+more
		}
		for name, call := range single() {
			wantPoly(t, name, call[0](x), call[0](a))
		}
		for name, call := range double() {
			wantPoly(t, name, call[0](x, b), call[0](a, b))
			wantPoly(t, name, call[0](a, y), call[0](a, b))
			wantPoly(t, name, call[0](x, y), call[0](a, b))
		}
	}
}

func wantBrought(t *testing.T, what string, p api.Poly) {
	t.Helper()
	for i, n := range p {
		if n < 0 || n >= q {
			t.Fatalf("%s: %d at %d", what, n, i)
		}
	}
}

func TestAnswersAreBrought(t *testing.T) {
	for _, p := range polys() {
		for name, call := range single() {
			wantBrought(t, name, call[0](p))
		}
		for name, call := range double() {
			wantBrought(t, name, call[0](p, mixed(3)))
			wantBrought(t, name, call[0](mixed(3), p))
		}
	}
}

// P4.1: what Add does Sub undoes, and Sub of a polynomial and itself is nothing.
func TestSubUndoesAdd(t *testing.T) {
	for _, a := range few() {
		for _, b := range polys() {
			wantPoly(t, "Sub of Add", small.Sub(small.Add(a, b), b), small.Mod(a))
			wantPoly(t, "Sub of itself", small.Sub(b, b), api.Poly{})
		}
	}
}

// P4.2: back, and back of back, of all numbers, and of one alone at each place.
func TestBack(t *testing.T) {
	for _, p := range polys() {
		wantPoly(t, "Inverse of NTT", small.Inverse(small.NTT(p)), small.Mod(p))
		wantPoly(t, "NTT of Inverse", small.NTT(small.Inverse(p)), small.Mod(p))
	}
	for i := range 256 {
		for _, n := range []int{1, -1, 3328, 1664} {
			p := alone(i, n)
			wantPoly(t, "Inverse of NTT", small.Inverse(small.NTT(p)), small.Mod(p))
			wantPoly(t, "NTT of Inverse", small.NTT(small.Inverse(p)), small.Mod(p))
		}
	}
}

func product(a, b api.Poly) api.Poly {
	return small.Inverse(small.Times(small.NTT(a), small.NTT(b)))
}

// P4.3: products of all kinds of polynomials are those of the school.
func TestProducts(t *testing.T) {
	for _, a := range few() {
		for _, b := range polys() {
			want := plainProduct(a, b)
			wantPoly(t, "the product", product(a, b), want)
			wantPoly(t, "the product, the other way round", product(b, a), want)
		}
	}
}

// P4.3: X^i times X^j is X^(i + j), or behind X^255 it is less X^(i + j - 256), of all i and j.
func TestProductsOfPowers(t *testing.T) {
	var transforms [256]api.Poly
	for i := range transforms {
		transforms[i] = small.NTT(alone(i, 1))
	}
	for i := range 256 {
		for j := range 256 {
			want := alone((i+j)%256, 1)
			if i+j > 255 {
				want = alone(i+j-256, q-1)
			}
			if got := small.Inverse(small.Times(transforms[i], transforms[j])); got != want {
				t.Fatalf("X^%d times X^%d: got %v", i, j, got)
			}
		}
	}
}

// P4.3: X^255 times X is less 1; 1 is what changes nothing, and nothing what leaves nothing.
func TestProductsAtTheEdges(t *testing.T) {
	wantPoly(t, "X^255 times X", product(alone(255, 1), alone(1, 1)), alone(0, 3328))
	wantPoly(t, "less X^255 times X", product(alone(255, -1), alone(1, 1)), alone(0, 1))
	wantPoly(t, "X^255 times X^255", product(alone(255, 1), alone(255, 1)), alone(254, 3328))
	wantPoly(t, "X^128 times X^128", product(alone(128, 1), alone(128, 1)), alone(0, 3328))
	for _, p := range polys() {
		wantPoly(t, "times 1", product(p, alone(0, 1)), small.Mod(p))
		wantPoly(t, "times less 1", product(p, alone(0, -1)), small.Sub(api.Poly{}, p))
		wantPoly(t, "times nothing", product(p, api.Poly{}), api.Poly{})
	}
}

// P4.3, P4.4: products go over sums.
func TestProductsOfSums(t *testing.T) {
	r := rand.New(rand.NewSource(7))
	for range 20 {
		a, b, c := wild(r), wild(r), ordinary(r)
		wantPoly(t, "of a sum", product(small.Add(a, b), c), small.Add(product(a, c), product(b, c)))
		wantPoly(t, "of a difference", product(c, small.Sub(a, b)), small.Sub(product(c, a), product(c, b)))
	}
}

// P4.4: of sums and of differences, and so back.
func TestTransformOfASum(t *testing.T) {
	for _, a := range few() {
		for _, b := range polys() {
			wantPoly(t, "NTT of a sum", small.NTT(small.Add(a, b)), small.Add(small.NTT(a), small.NTT(b)))
			wantPoly(t, "NTT of a difference", small.NTT(small.Sub(a, b)), small.Sub(small.NTT(a), small.NTT(b)))
			wantPoly(t, "Inverse of a sum", small.Inverse(small.Add(a, b)), small.Add(small.Inverse(a), small.Inverse(b)))
		}
	}
	wantPoly(t, "NTT of nothing", small.NTT(api.Poly{}), api.Poly{})
	wantPoly(t, "NTT of a sum that is nothing", small.NTT(small.Add(alone(9, 1), alone(9, -1))), api.Poly{})
}

// P3: what was handed in is left as it was, also where both arguments are one.
func TestHandedInIsLeft(t *testing.T) {
	for shift := range len(edges()) {
		a, b := mixed(shift), mixed(shift+5)
		for name, call := range single() {
			call[0](a)
			wantPoly(t, name+", handed in", a, mixed(shift))
		}
		for name, call := range double() {
			call[0](a, b)
			wantPoly(t, name+", handed in first", a, mixed(shift))
			wantPoly(t, name+", handed in second", b, mixed(shift+5))
			wantPoly(t, name+" of one twice", call[0](a, a), call[1](a, a))
			wantPoly(t, name+", handed in twice", a, mixed(shift))
		}
	}
}

// P3: what a call answers hangs on its arguments alone, whatever was called ahead of it, and whatever is done to answers.
func TestAnswersHangOnArgumentsAlone(t *testing.T) {
	for _, p := range few() {
		for name, call := range single() {
			first := call[0](p)
			kept := first
			first = all(-7)
			small.NTT(first)
			wantPoly(t, name+", asked anew", call[0](p), kept)
		}
		for name, call := range double() {
			first := call[0](p, mixed(1))
			kept := first
			first = all(-7)
			small.Times(first, first)
			wantPoly(t, name+", asked anew", call[0](p, mixed(1)), kept)
		}
	}
}
