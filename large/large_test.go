package large_test

import (
	"math"
	"testing"

	"sodality/api"
	"sodality/large"
	"sodality/trial"
)

const (
	q    = trial.Modulus(8380417)
	half = 4190208
)

// layer is held against the transform as the published standard defines it: by a polynomial's values at the roots.
func layer() trial.Layer {
	return trial.Layer{
		Plain:   trial.Ring{Modulus: q, Root: 1753, Least: 1},
		Mod:     large.Mod,
		Add:     large.Add,
		Sub:     large.Sub,
		NTT:     large.NTT,
		Inverse: large.Inverse,
		Times:   large.Times,
		More: []trial.One{
			{Name: "Centred", Do: large.Centred, Plain: plainCentred},
			{Name: "Size", Do: sizeAlone, Plain: plainSizeAlone},
		},
	}
}

func plainCentred(p api.Poly) api.Poly {
	p = q.Brought(p)
	for i, n := range p {
		if n > half {
			p[i] = n - int(q)
		}
	}
	return p
}

func plainSize(p api.Poly) int {
	size := 0
	for _, n := range plainCentred(p) {
		if n < 0 {
			n = -n
		}
		if n > size {
			size = n
		}
	}
	return size
}

// sizeAlone has Size be one of the calls that answer a polynomial.
func sizeAlone(p api.Poly) api.Poly { return trial.Alone(0, large.Size(p)) }

func plainSizeAlone(p api.Poly) api.Poly { return trial.Alone(0, plainSize(p)) }

func wantNumber(t *testing.T, what string, got, want int) {
	t.Helper()
	if got != want {
		t.Errorf("%s: got %d, want %d", what, got, want)
	}
}

// P7.1: the chapter's examples.
func TestExamples(t *testing.T) {
	trial.WantPoly(t, "Centred(8380416, 0 ..)", large.Centred(api.Poly{8380416}), api.Poly{-1})
	trial.WantPoly(t, "Centred(8380416, 8380416 ..)", large.Centred(trial.All(8380416)), trial.All(-1))
	trial.WantPoly(t, "NTT(1, 0 ..)", large.NTT(api.Poly{1}), trial.All(1))
}

// P7.1.
func TestCalls(t *testing.T) { layer().WantTold(t) }

// P7.1 (L1): the edges, told by hand, at each place.
func TestEdges(t *testing.T) {
	for _, x := range []struct{ n, mod, centred int }{
		{0, 0, 0},
		{1, 1, 1},
		{4190208, 4190208, 4190208},
		{4190209, 4190209, -4190208},
		{4190210, 4190210, -4190207},
		{8380416, 8380416, -1},
		{8380417, 0, 0},
		{8380418, 1, 1},
		{-1, 8380416, -1},
		{-4190208, 4190209, -4190208},
		{-4190209, 4190208, 4190208},
		{-4190210, 4190207, 4190207},
		{-8380416, 1, 1},
		{-8380417, 0, 0},
		{-8380418, 8380416, -1},
		{math.MaxInt64, 5373183, -3007234},
		{math.MinInt64, 3007233, 3007233},
	} {
		for i := range 256 {
			p, less := trial.Alone(i, x.n), q.Number(-x.mod)
			trial.WantPoly(t, "Mod", large.Mod(p), trial.Alone(i, x.mod))
			trial.WantPoly(t, "Centred", large.Centred(p), trial.Alone(i, x.centred))
			wantNumber(t, "Size", large.Size(p), max(x.centred, -x.centred))
			trial.WantPoly(t, "Add, first", large.Add(p, api.Poly{}), trial.Alone(i, x.mod))
			trial.WantPoly(t, "Add, second", large.Add(api.Poly{}, p), trial.Alone(i, x.mod))
			trial.WantPoly(t, "Sub, first", large.Sub(p, api.Poly{}), trial.Alone(i, x.mod))
			trial.WantPoly(t, "Sub, second", large.Sub(api.Poly{}, p), trial.Alone(i, less))
			trial.WantPoly(t, "Times, first", large.Times(p, trial.All(-1)), trial.Alone(i, less))
			trial.WantPoly(t, "Times, second", large.Times(trial.All(-1), p), trial.Alone(i, less))
		}
	}
}

// P7.1 (L1): all numbers modulo q, and as many below 0.
func TestCentredOfAllNumbers(t *testing.T) {
	for from := -int(q); from < int(q); from += 256 {
		var p api.Poly
		for i := range p {
			p[i] = from + i
		}
		trial.WantPoly(t, "Mod", large.Mod(p), q.Brought(p))
		trial.WantPoly(t, "Centred", large.Centred(p), plainCentred(p))
	}
}

// P7.1 (L1): the greatest number, wherever it stands, and whatever its sign.
func TestSize(t *testing.T) {
	wantNumber(t, "of nothing", large.Size(api.Poly{}), 0)
	wantNumber(t, "of multiples of q", large.Size(trial.All(-3*int(q))), 0)
	wantNumber(t, "of the greatest, and the least", large.Size(api.Poly{half, -half}), half)
	wantNumber(t, "of the least, and the greatest", large.Size(api.Poly{-half, half}), half)
	wantNumber(t, "of all that are half", large.Size(trial.All(half)), half)
	wantNumber(t, "of all that are one more than half", large.Size(trial.All(half+1)), half)
	wantNumber(t, "of 3 and -5", large.Size(api.Poly{3, -5}), 5)
	wantNumber(t, "of -5 and 3", large.Size(api.Poly{-5, 3}), 5)
	wantNumber(t, "of one that is less than q", large.Size(api.Poly{7, int(q) - 2}), 7)
	for i := range 256 {
		p := trial.All(100)
		p[i] = -101
		wantNumber(t, "of the greatest below 0", large.Size(p), 101)
		p[i] = int(q) - 101
		wantNumber(t, "of the greatest below 0, brought", large.Size(p), 101)
		p = trial.All(-100)
		p[i] = 101
		wantNumber(t, "of the greatest above 0", large.Size(p), 101)
		p[i] = half + 1
		wantNumber(t, "of one more than half", large.Size(p), half)
	}
}

// P7.1 (L2): the published table of the roots: X transformed is its second half, each root with its opposite behind it.
func TestPublishedRoots(t *testing.T) {
	roots := [128]int{
		1753, 6444997, 5720892, 6924527, 2660408, 6600190, 8321269, 2772600,
		1182243, 87208, 636927, 4415111, 4423672, 6084020, 5095502, 4663471,
		8352605, 822541, 1009365, 5926272, 6400920, 1596822, 4423473, 4620952,
		6695264, 4969849, 2678278, 4611469, 4829411, 635956, 8129971, 5925040,
		4234153, 6607829, 2192938, 6653329, 2387513, 4768667, 8111961, 5199961,
		3747250, 2296099, 1239911, 4541938, 3195676, 2642980, 1254190, 8368000,
		2998219, 141835, 8291116, 2513018, 7025525, 613238, 7070156, 6161950,
		7921677, 6458423, 4040196, 4908348, 2039144, 6500539, 7561656, 6201452,
		6757063, 2105286, 6006015, 6346610, 586241, 7200804, 527981, 5637006,
		6903432, 1994046, 2491325, 6987258, 507927, 7192532, 7655613, 6545891,
		5346675, 8041997, 2647994, 3009748, 5767564, 4148469, 749577, 4357667,
		3980599, 2569011, 6764887, 1723229, 1665318, 2028038, 1163598, 5011144,
		3994671, 8368538, 7009900, 3020393, 3363542, 214880, 545376, 7609976,
		3105558, 7277073, 508145, 7826699, 860144, 3430436, 140244, 6866265,
		6195333, 3123762, 2358373, 6187330, 5365997, 6663603, 2926054, 7987710,
		8077412, 3531229, 4405932, 4606686, 1900052, 7598542, 1054478, 7648983,
	}
	var want api.Poly
	for i, z := range roots {
		want[2*i], want[2*i+1] = z, int(q)-z
	}
	trial.WantPoly(t, "NTT of X", large.NTT(trial.Alone(1, 1)), want)
	trial.WantPoly(t, "Inverse of the roots", large.Inverse(want), trial.Alone(1, 1))
}

// P7.1 (L2): Times is number by number, not the product of polynomials.
func TestTimesNumberByNumber(t *testing.T) {
	trial.WantPoly(t, "of great ones", large.Times(trial.All(8380416), trial.All(8380416)), trial.All(1))
	trial.WantPoly(t, "of some", large.Times(api.Poly{2, 3, -4}, api.Poly{5, -1, -1}), api.Poly{10, 8380414, 4})
	trial.WantPoly(t, "of unlike places", large.Times(trial.Alone(3, 1), trial.Alone(4, 1)), api.Poly{})
}

// P7.2.
func TestBack(t *testing.T) { layer().WantBack(t) }

// P7.3.
func TestProducts(t *testing.T) { layer().WantProducts(t) }

// P7.3: X^255 times X is less 1.
func TestProductsAtTheEdges(t *testing.T) {
	for _, x := range []struct{ a, b, want api.Poly }{
		{trial.Alone(255, 1), trial.Alone(1, 1), trial.Alone(0, 8380416)},
		{trial.Alone(255, -1), trial.Alone(1, 1), trial.Alone(0, 1)},
		{trial.Alone(255, 1), trial.Alone(255, 1), trial.Alone(254, 8380416)},
		{trial.Alone(128, 1), trial.Alone(128, 1), trial.Alone(0, 8380416)},
		{trial.Alone(1, 1), trial.Alone(2, 1), trial.Alone(3, 1)},
	} {
		got := large.Inverse(large.Times(large.NTT(x.a), large.NTT(x.b)))
		trial.WantPoly(t, "the product", got, x.want)
	}
}

// P7.4.
func TestTransformOfASum(t *testing.T) { layer().WantSums(t) }

// P3: what was handed in is left as it was, and what a call answers hangs on that alone.
func TestAnswersHangOnArgumentsAlone(t *testing.T) { layer().WantLeft(t) }
