package trial_test

import (
	"math"
	"math/big"
	"testing"

	"sodality/api"
	"sodality/small"
	"sodality/trial"
)

const q = trial.Modulus(3329)

func good() trial.Layer {
	return trial.Layer{
		Plain:   trial.Ring{Modulus: q, Root: 17, Least: 2},
		Mod:     small.Mod,
		Add:     small.Add,
		Sub:     small.Sub,
		NTT:     small.NTT,
		Inverse: small.Inverse,
		Times:   small.Times,
	}
}

// bad answers something else where a polynomial is of a kind.
func bad(do func(p api.Poly) api.Poly, is func(p api.Poly) bool) func(p api.Poly) api.Poly {
	return func(p api.Poly) api.Poly {
		out := do(p)
		if is(p) {
			out[0]++
		}
		return out
	}
}

func badOfTwo(do func(a, b api.Poly) api.Poly, is func(a, b api.Poly) bool) func(a, b api.Poly) api.Poly {
	return func(a, b api.Poly) api.Poly {
		out := do(a, b)
		if is(a, b) {
			out[255]--
		}
		return out
	}
}

// What a layer does wrong with one kind of polynomials alone is found.
func TestLayers(t *testing.T) {
	least := func(p api.Poly) bool { return p[7] == math.MinInt }
	power := func(p api.Poly) bool { return p == trial.Alone(77, 1) }
	first := func(a, b api.Poly) bool { return least(a) && !least(b) }
	second := func(a, b api.Poly) bool { return first(b, a) }
	alike := func(a, b api.Poly) bool { return a == b }
	for name, spoil := range map[string]func(l *trial.Layer){
		"Mod":     func(l *trial.Layer) { l.Mod = bad(l.Mod, least) },
		"NTT":     func(l *trial.Layer) { l.NTT = bad(l.NTT, power) },
		"Inverse": func(l *trial.Layer) { l.Inverse = bad(l.Inverse, power) },
		"Add":     func(l *trial.Layer) { l.Add = badOfTwo(l.Add, first) },
		"Sub":     func(l *trial.Layer) { l.Sub = badOfTwo(l.Sub, second) },
		"Times":   func(l *trial.Layer) { l.Times = badOfTwo(l.Times, alike) },
		"more": func(l *trial.Layer) {
			l.More = []trial.One{{Name: "more", Do: bad(small.Mod, least), Plain: q.Brought}}
		},
	} {
		l := good()
		spoil(&l)
		if !found(l.WantTold) {
			t.Errorf("%s: no fault is found", name)
		}
	}
}

// Each promise has a layer that breaks it.
func TestPromisesOfLayers(t *testing.T) {
	for name, x := range map[string]struct {
		spoil func(l *trial.Layer)
		want  func(l trial.Layer) func(t trial.T)
	}{
		"back": {
			func(l *trial.Layer) { l.Inverse = l.NTT },
			func(l trial.Layer) func(t trial.T) { return l.WantBack },
		},
		"products": {
			func(l *trial.Layer) { l.Times = l.Add },
			func(l trial.Layer) func(t trial.T) { return l.WantProducts },
		},
		"sums": {
			func(l *trial.Layer) { l.NTT = bad(l.NTT, func(p api.Poly) bool { return p[0] > 0 }) },
			func(l trial.Layer) func(t trial.T) { return l.WantSums },
		},
		"asked anew": {
			func(l *trial.Layer) {
				asked := 0
				l.Mod = func(api.Poly) api.Poly { asked++; return trial.All(asked) }
			},
			func(l trial.Layer) func(t trial.T) { return l.WantLeft },
		},
	} {
		l := good()
		x.spoil(&l)
		if !found(x.want(l)) {
			t.Errorf("%s: no fault is found", name)
		}
	}
	if found(good().WantLeft) || found(good().WantBack) {
		t.Error("a good one has a fault")
	}
}

func TestNumbers(t *testing.T) {
	for _, m := range []trial.Modulus{2, 3329, 8380417} {
		for _, n := range m.Edges() {
			want := new(big.Int).Mod(big.NewInt(int64(n)), big.NewInt(int64(m))).Int64()
			if got := m.Number(n); got != int(want) {
				t.Errorf("%d modulo %d: got %d", n, m, got)
			}
		}
	}
}

func TestPolys(t *testing.T) {
	if trial.Wild(1) == trial.Wild(2) || trial.Wild(1) != trial.Wild(1) {
		t.Error("wild ones do not hang on their number")
	}
	low, high := false, false
	for _, n := range trial.Wild(3) {
		low, high = low || n < -1<<60, high || n > 1<<60
	}
	if !low || !high {
		t.Error("wild ones are tame")
	}
	if p := q.Mixed(3); p[0] != q.Edges()[3] || p == q.Mixed(4) {
		t.Error("the edges are not mixed")
	}
	if got := q.Product(trial.Alone(255, 1), trial.Alone(1, 2)); got != trial.Alone(0, 3327) {
		t.Errorf("X^255 times 2 X: got %v", got)
	}
	if !found(func(h trial.T) { trial.WantPoly(h, "", trial.Alone(255, 1), api.Poly{}) }) {
		t.Error("polynomials are not told apart")
	}
}
