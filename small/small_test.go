package small_test

import (
	"testing"

	"sodality/api"
	"sodality/small"
	"sodality/trial"
)

// layer is held against the transform as the published standard defines it: by what each polynomial leaves of a polynomial of two numbers.
func layer() trial.Layer {
	return trial.Layer{
		Plain:   trial.Ring{Modulus: 3329, Root: 17, Least: 2},
		Mod:     small.Mod,
		Add:     small.Add,
		Sub:     small.Sub,
		NTT:     small.NTT,
		Inverse: small.Inverse,
		Times:   small.Times,
	}
}

// P4.1: the chapter's examples.
func TestExamples(t *testing.T) {
	f := small.NTT(api.Poly{1})
	for i, n := range f {
		if n != 1-i%2 {
			t.Errorf("NTT(1, 0 ..): got %d at %d", n, i)
		}
	}
	if got := small.Mod(api.Poly{-1}); got != (api.Poly{3328}) {
		t.Errorf("Mod(-1, 0 ..): got %v", got)
	}
}

// P4.1: the published table of the roots: those of X^2 transformed are the roots themselves, each with its opposite behind it.
func TestPublishedRoots(t *testing.T) {
	roots := [64]int{
		17, 2761, 583, 2649, 1637, 723, 2288, 1100, 1409, 2662, 3281, 233, 756, 2156, 3015, 3050,
		1703, 1651, 2789, 1789, 1847, 952, 1461, 2687, 939, 2308, 2437, 2388, 733, 2337, 268, 641,
		1584, 2298, 2037, 3220, 375, 2549, 2090, 1645, 1063, 319, 2773, 757, 2099, 561, 2466, 2594,
		2804, 1092, 403, 1026, 1143, 2150, 2775, 886, 1722, 1212, 1874, 1029, 2110, 2935, 885, 2154,
	}
	var even, odd api.Poly
	for i, g := range roots {
		even[4*i], even[4*i+2] = g, 3329-g
		odd[4*i+1], odd[4*i+3] = g, 3329-g
	}
	x := small.NTT(trial.Alone(1, 1))
	trial.WantPoly(t, "NTT of X^2", small.NTT(trial.Alone(2, 1)), even)
	trial.WantPoly(t, "NTT of X^3", small.NTT(trial.Alone(3, 1)), odd)
	trial.WantPoly(t, "X times X, by pairs", small.Times(x, x), even)
}

// P4.1.
func TestCalls(t *testing.T) { layer().WantTold(t) }

// P4.2.
func TestBack(t *testing.T) { layer().WantBack(t) }

// P4.3.
func TestProducts(t *testing.T) { layer().WantProducts(t) }

// P4.3: X^255 times X is less 1.
func TestProductsAtTheEdges(t *testing.T) {
	for _, x := range []struct{ a, b, want api.Poly }{
		{trial.Alone(255, 1), trial.Alone(1, 1), trial.Alone(0, 3328)},
		{trial.Alone(255, -1), trial.Alone(1, 1), trial.Alone(0, 1)},
		{trial.Alone(255, 1), trial.Alone(255, 1), trial.Alone(254, 3328)},
		{trial.Alone(128, 1), trial.Alone(128, 1), trial.Alone(0, 3328)},
	} {
		got := small.Inverse(small.Times(small.NTT(x.a), small.NTT(x.b)))
		trial.WantPoly(t, "the product", got, x.want)
	}
}

// P4.4.
func TestTransformOfASum(t *testing.T) { layer().WantSums(t) }

// P3.
func TestAnswersHangOnArgumentsAlone(t *testing.T) { layer().WantLeft(t) }
