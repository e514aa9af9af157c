package trial

import (
	"math"
	"slices"

	"sodality/api"
)

// One and Two are calls of one polynomial and of two, with what they are by another way.
type One struct {
	Name      string
	Do, Plain func(p api.Poly) api.Poly
}

type Two struct {
	Name      string
	Do, Plain func(a, b api.Poly) api.Poly
}

// Layer is what a layer says of polynomials. More are calls of its that not each such layer has.
type Layer struct {
	Plain             Ring
	Mod, NTT, Inverse func(p api.Poly) api.Poly
	Add, Sub, Times   func(a, b api.Poly) api.Poly
	More              []One
}

func (l Layer) ones() []One {
	return append([]One{
		{"Mod", l.Mod, l.Plain.Brought},
		{"NTT", l.NTT, l.Plain.NTT},
		{"Inverse", l.Inverse, l.Plain.Inverse},
	}, l.More...)
}

func (l Layer) twos() []Two {
	return []Two{
		{"Add", l.Add, l.Plain.Add},
		{"Sub", l.Sub, l.Plain.Sub},
		{"Times", l.Times, l.Plain.Times},
	}
}

// WantTold ends a test if a call answers something else than it does by another way: of polynomials of all kinds, of each edge against each other one, and of one number alone at each place.
func (l Layer) WantTold(t T) {
	t.Helper()
	for _, c := range l.ones() {
		for _, p := range l.Plain.Polys() {
			WantPoly(t, c.Name, c.Do(p), c.Plain(p))
			WantPoly(t, c.Name+" twice", c.Do(c.Do(p)), c.Plain(c.Plain(p)))
		}
	}
	for _, c := range l.twos() {
		for _, a := range l.Plain.Few() {
			for _, b := range l.Plain.Polys() {
				c.wantTold(t, a, b)
			}
		}
	}
	l.wantEdges(t)
	l.wantAlone(t)
	l.wantMultiples(t)
}

func (c Two) wantTold(t T, a, b api.Poly) {
	t.Helper()
	WantPoly(t, c.Name, c.Do(a, b), c.Plain(a, b))
	WantPoly(t, c.Name+", the other way round", c.Do(b, a), c.Plain(b, a))
}

func (l Layer) wantEdges(t T) {
	t.Helper()
	for _, x := range l.Plain.Edges() {
		for _, y := range l.Plain.Edges() {
			a, b := All(x), All(y)
			for i := 0; i < api.N; i += 2 {
				a[i], b[i] = y, x
			}
			for _, c := range l.twos() {
				c.wantTold(t, All(x), All(y))
				c.wantTold(t, a, b)
			}
		}
	}
}

func (l Layer) wantAlone(t T) {
	t.Helper()
	for i := range api.N {
		for _, n := range l.Plain.Edges() {
			p := Alone(i, n)
			for _, c := range l.ones() {
				WantPoly(t, c.Name+" of one number alone", c.Do(p), c.Plain(p))
			}
			for _, c := range l.twos() {
				c.wantTold(t, p, All(1))
				c.wantTold(t, p, Alone(i, -1))
			}
		}
	}
}

// wantMultiples: a multiple of the modulus more or less changes no answer.
func (l Layer) wantMultiples(t T) {
	t.Helper()
	q := int(l.Plain.Modulus)
	a, b := l.Plain.Brought(Wild(400)), l.Plain.Brought(Wild(401))
	for _, more := range []int{q, -q, 7 * q, -7 * q, math.MaxInt/q*q - q, math.MinInt / q * q} {
		x, y := a, b
		for i := range x {
			x[i], y[i] = a[i]+more, b[i]+more
		}
		for _, c := range l.ones() {
			WantPoly(t, c.Name+" of multiples more", c.Do(x), c.Do(a))
		}
		for _, c := range l.twos() {
			WantPoly(t, c.Name+" of multiples more", c.Do(x, b), c.Do(a, b))
			WantPoly(t, c.Name+" of multiples more", c.Do(a, y), c.Do(a, b))
			WantPoly(t, c.Name+" of multiples more", c.Do(x, y), c.Do(a, b))
		}
	}
}

// WantBack ends a test if a transform and back, or back and a transform, is not what there was.
func (l Layer) WantBack(t T) {
	t.Helper()
	all := l.Plain.Polys()
	for i := range api.N {
		for _, n := range []int{1, -1, int(l.Plain.Modulus) / 2} {
			all = append(all, Alone(i, n))
		}
	}
	for _, p := range all {
		WantPoly(t, "Inverse of NTT", l.Inverse(l.NTT(p)), l.Plain.Brought(p))
		WantPoly(t, "NTT of Inverse", l.NTT(l.Inverse(p)), l.Plain.Brought(p))
	}
}

func (l Layer) product(a, b api.Poly) api.Poly {
	return l.Inverse(l.Times(l.NTT(a), l.NTT(b)))
}

// WantProducts ends a test if products by transforms are not those of the school.
func (l Layer) WantProducts(t T) {
	t.Helper()
	for _, a := range l.Plain.Few() {
		for _, b := range l.Plain.Polys() {
			want := l.Plain.Product(a, b)
			WantPoly(t, "the product", l.product(a, b), want)
			WantPoly(t, "the product, the other way round", l.product(b, a), want)
		}
	}
	for _, p := range l.Plain.Polys() {
		WantPoly(t, "times 1", l.product(p, Alone(0, 1)), l.Plain.Brought(p))
		WantPoly(t, "times less 1", l.product(p, Alone(0, -1)), l.Plain.Sub(api.Poly{}, p))
		WantPoly(t, "times nothing", l.product(p, api.Poly{}), api.Poly{})
	}
	l.wantPowers(t)
}

// wantPowers: X^i times X^j is X^(i + j), or behind X^255 it is less X^(i + j - 256), of all i and j.
func (l Layer) wantPowers(t T) {
	t.Helper()
	var transforms [api.N]api.Poly
	for i := range transforms {
		transforms[i] = l.NTT(Alone(i, 1))
	}
	for i, x := range transforms {
		for j, y := range transforms {
			want := Alone((i+j)%api.N, 1)
			if i+j >= api.N {
				want = Alone(i+j-api.N, int(l.Plain.Modulus)-1)
			}
			WantPoly(t, "a power times a power", l.Inverse(l.Times(x, y)), want)
		}
	}
}

// WantSums ends a test if transforms, back, or products do not go over sums and differences.
func (l Layer) WantSums(t T) {
	t.Helper()
	for _, a := range l.Plain.Few() {
		for _, b := range l.Plain.Polys() {
			WantPoly(t, "NTT of a sum", l.NTT(l.Add(a, b)), l.Add(l.NTT(a), l.NTT(b)))
			WantPoly(t, "NTT of a difference", l.NTT(l.Sub(a, b)), l.Sub(l.NTT(a), l.NTT(b)))
			WantPoly(t, "Inverse of a sum", l.Inverse(l.Add(a, b)), l.Add(l.Inverse(a), l.Inverse(b)))
		}
	}
	for which := range 20 {
		a, b, c := Wild(500+which), Wild(600+which), Wild(700+which)
		WantPoly(t, "the product of a sum", l.product(l.Add(a, b), c), l.Add(l.product(a, c), l.product(b, c)))
		WantPoly(t, "the product of a difference", l.product(c, l.Sub(a, b)), l.Sub(l.product(c, a), l.product(c, b)))
	}
}

// WantLeft ends a test whose call changes what it was handed in, or answers something else when it is asked anew, behind other calls and a change of what it answered.
func (l Layer) WantLeft(t T) {
	t.Helper()
	for shift := range l.Plain.Edges() {
		a, b := l.Plain.Mixed(shift), l.Plain.Mixed(shift+5)
		first := l.answers(a, b)
		kept := slices.Clone(first)
		for i := range first {
			first[i] = All(-7)
		}
		l.answers(b, a)
		l.answers(b, b)
		WantPoly(t, "handed in first", a, l.Plain.Mixed(shift))
		WantPoly(t, "handed in second", b, l.Plain.Mixed(shift+5))
		for i, p := range l.answers(a, b) {
			WantPoly(t, "asked anew", p, kept[i])
		}
	}
}

// answers are those of all calls.
func (l Layer) answers(a, b api.Poly) []api.Poly {
	var out []api.Poly
	for _, c := range l.ones() {
		out = append(out, c.Do(a))
	}
	for _, c := range l.twos() {
		out = append(out, c.Do(a, b))
	}
	return out
}
