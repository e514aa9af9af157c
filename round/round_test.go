package round_test

import (
	"math"
	"math/big"
	"testing"

	"sodality/api"
	"sodality/round"
	"sodality/trial"
)

const (
	q      = 8380417
	narrow = 8192
	wide   = 523776
	half   = wide / 2
)

// plainRest is the rest as the chapter has it: above less half of m, and up to half of it.
func plainRest(n, m int) int {
	n %= m
	if n > m/2 {
		n -= m
	}
	return n
}

func plainPower2(r int) (int, int) {
	r = trial.Modulus(q).Number(r)
	low := plainRest(r, narrow)
	return (r - low) / narrow, low
}

func plainParts(r int) (int, int) {
	r = trial.Modulus(q).Number(r)
	low := plainRest(r, wide)
	if r-low == q-1 {
		return 0, low - 1
	}
	return (r - low) / wide, low
}

// plainSum is r + z, brought, where no int may hold it.
func plainSum(z, r int) int {
	sum := new(big.Int).Add(big.NewInt(int64(z)), big.NewInt(int64(r)))
	return int(sum.Mod(sum, big.NewInt(q)).Int64())
}

func plainHint(z, r int) bool {
	was, _ := plainParts(r)
	is, _ := plainParts(plainSum(z, r))
	return was != is
}

func plainUse(hint bool, r int) int {
	high, low := plainParts(r)
	if !hint {
		return high
	}
	if low > 0 {
		high++
	} else {
		high--
	}
	return trial.Modulus(16).Number(high)
}

// edges are numbers around those at which something changes, the same below 0, and the least and the greatest.
func edges() []int {
	out := trial.Modulus(q).Edges()
	for _, n := range []int{
		4095, 4096, 4097, 8191, 8192, 8193, 261887, 261888, 261889, 523775, 523776, 523777,
		8118527, 8118528, 8118529, 8380415, 8380416, 8380417, 8380418,
	} {
		out = append(out, n, -n)
	}
	return out
}

// borders are each high part's first and last number, and two numbers on both sides of these.
func borders() []int {
	var out []int
	for high := range 17 {
		for n := high*wide + half - 2; n <= high*wide+half+3; n++ {
			out = append(out, n-q, n)
		}
	}
	return out
}

// inside are numbers that stand anywhere: others for each which.
func inside(which int) []int {
	p := trial.Wild(which)
	return p[:]
}

func want(t *testing.T, what string, got, want any) {
	t.Helper()
	if got != want {
		t.Fatalf("%s: got %v, want %v", what, got, want)
	}
}

type pair struct{ high, low int }

func power2(r int) pair {
	high, low := round.Power2(r)
	return pair{high, low}
}

func parts(r int) pair {
	high, low := round.Parts(r)
	return pair{high, low}
}

// P8.1: the chapter's examples.
func TestExamples(t *testing.T) {
	want(t, "Power2(4097)", power2(4097), pair{1, -4095})
	want(t, "Power2(4096)", power2(4096), pair{0, 4096})
	want(t, "Parts(8380416)", parts(8380416), pair{0, -1})
}

// P8.1 (R1, R2): the edges, told by hand, and the same behind some turns around q.
func TestCutAtTheEdges(t *testing.T) {
	for _, x := range []struct {
		r      int
		p2, by pair
	}{
		{0, pair{0, 0}, pair{0, 0}},
		{1, pair{0, 1}, pair{0, 1}},
		{4095, pair{0, 4095}, pair{0, 4095}},
		{4096, pair{0, 4096}, pair{0, 4096}},
		{4097, pair{1, -4095}, pair{0, 4097}},
		{8191, pair{1, -1}, pair{0, 8191}},
		{8192, pair{1, 0}, pair{0, 8192}},
		{8193, pair{1, 1}, pair{0, 8193}},
		{261887, pair{32, -257}, pair{0, 261887}},
		{261888, pair{32, -256}, pair{0, 261888}},
		{261889, pair{32, -255}, pair{1, -261887}},
		{523775, pair{64, -513}, pair{1, -1}},
		{523776, pair{64, -512}, pair{1, 0}},
		{523777, pair{64, -511}, pair{1, 1}},
		{8118527, pair{991, 255}, pair{15, 261887}},
		{8118528, pair{991, 256}, pair{15, 261888}},
		{8118529, pair{991, 257}, pair{0, -261888}},
		{8380415, pair{1023, -1}, pair{0, -2}},
		{8380416, pair{1023, 0}, pair{0, -1}},
		{8380417, pair{0, 0}, pair{0, 0}},
		{8380418, pair{0, 1}, pair{0, 1}},
		{-1, pair{1023, 0}, pair{0, -1}},
		{-4095, pair{1023, -4094}, pair{0, -4095}},
		{-4096, pair{1023, -4095}, pair{0, -4096}},
		{-4097, pair{1022, 4096}, pair{0, -4097}},
		{-8191, pair{1022, 2}, pair{0, -8191}},
		{-8192, pair{1022, 1}, pair{0, -8192}},
		{-8193, pair{1022, 0}, pair{0, -8193}},
		{-261887, pair{991, 258}, pair{0, -261887}},
		{-261888, pair{991, 257}, pair{0, -261888}},
		{-261889, pair{991, 256}, pair{15, 261888}},
		{-523775, pair{959, 514}, pair{15, 2}},
		{-523776, pair{959, 513}, pair{15, 1}},
		{-523777, pair{959, 512}, pair{15, 0}},
		{-8118527, pair{32, -254}, pair{1, -261886}},
		{-8118528, pair{32, -255}, pair{1, -261887}},
		{-8118529, pair{32, -256}, pair{0, 261888}},
		{-8380415, pair{0, 2}, pair{0, 2}},
		{-8380416, pair{0, 1}, pair{0, 1}},
		{-8380417, pair{0, 0}, pair{0, 0}},
		{-8380418, pair{1023, 0}, pair{0, -1}},
		{math.MaxInt64, pair{656, -769}, pair{10, 135423}},
		{math.MinInt64, pair{367, 769}, pair{6, -135423}},
	} {
		want(t, "Power2", power2(x.r), x.p2)
		want(t, "Parts", parts(x.r), x.by)
		want(t, "Use without the hint", round.Use(false, x.r), x.by.high)
		want(t, "Hint that goes from 0", round.Hint(x.r, 0), x.by.high != 0)
		want(t, "Hint with nothing added", round.Hint(0, x.r), false)
		for _, more := range []int{q, -q, 1000 * q, -1000 * q} {
			near := x.r%q + more
			want(t, "Power2, some turns on", power2(near), x.p2)
			want(t, "Parts, some turns on", parts(near), x.by)
		}
	}
}

// P8.1 (R1, R2), P8.2, P8.4: all numbers modulo q, and the same below 0, one behind the other.
func TestCutOfAllNumbers(t *testing.T) {
	var p2, by pair
	for r := range q {
		if power2(r) != p2 || power2(r-q) != p2 {
			t.Fatalf("Power2(%d), and less q: %v, %v, want %v", r, power2(r), power2(r-q), p2)
		}
		if parts(r) != by || parts(r-q) != by {
			t.Fatalf("Parts(%d), and less q: %v, %v, want %v", r, parts(r), parts(r-q), by)
		}
		p2, by = next(p2, narrow), next(by, wide)
		if by.high == 16 { // there q - 1 stands where no high part is any more: all from here on are below 0
			by = pair{0, by.low - 1}
		}
	}
	want(t, "Power2 behind the last number", p2, pair{1023, 1})
	want(t, "Parts behind the last number", by, pair{0, 0})
}

// next is the pair of the number behind.
func next(p pair, m int) pair {
	p.low++
	if p.low > m/2 {
		p.high, p.low = p.high+1, p.low-m
	}
	return p
}

// P8.1 (R1): each high part's first and last number, and the numbers beside these.
func TestPower2AtEachHighPart(t *testing.T) {
	for high := range 1023 {
		last := high*narrow + 4096
		want(t, "the last but one", power2(last-1), pair{high, 4095})
		want(t, "the last", power2(last), pair{high, 4096})
		want(t, "the next one's first", power2(last+1), pair{high + 1, -4095})
		want(t, "its second", power2(last+2), pair{high + 1, -4094})
	}
	want(t, "the first of all", power2(0), pair{0, 0})
	want(t, "the last of all", power2(q-1), pair{1023, 0})
}

// P8.1 (R2): each high part's first and last number, and the numbers beside these.
func TestPartsAtEachHighPart(t *testing.T) {
	for high := range 16 {
		last := high*wide + half
		first := pair{high + 1, 1 - half}
		if high == 15 { // the part 0 goes on from here to q, and has a number more
			first = pair{0, -half}
		}
		second := pair{first.high, first.low + 1}
		for _, turn := range []int{0, q, -q, 3 * q, -3 * q} {
			want(t, "the last but one", parts(last-1+turn), pair{high, half - 1})
			want(t, "the last", parts(last+turn), pair{high, half})
			want(t, "the next one's first", parts(last+1+turn), first)
			want(t, "its second", parts(last+2+turn), second)
		}
	}
}

// P8.2, P8.4: of any numbers that an int holds.
func TestPartsMakeTheNumberAgain(t *testing.T) {
	for _, r := range append(append(edges(), borders()...), inside(1)...) {
		n := trial.Modulus(q).Number(r)
		a, b := power2(r), parts(r)
		if a.high < 0 || a.high > 1023 || a.low <= -4096 || a.low > 4096 || a.high*narrow+a.low != n {
			t.Fatalf("Power2(%d): %v", r, a)
		}
		if b.high < 0 || b.high > 15 || b.low < -half || b.low > half || trial.Modulus(q).Number(b.high*wide+b.low) != n {
			t.Fatalf("Parts(%d): %v", r, b)
		}
	}
}

// P8.1 (R3): hints that are told by hand.
func TestHintByHand(t *testing.T) {
	for _, x := range []struct {
		z, r int
		want bool
	}{
		{0, 0, false},
		{1, 0, false},
		{261888, 0, false},
		{261889, 0, true},
		{-261888, 0, false},
		{-261889, 0, true},
		{1, 261887, false},
		{1, 261888, true},
		{-1, 261889, true},
		{-1, 261890, false},
		{261887, 1, false},
		{261888, 1, true},
		{-261887, -1, false},
		{-261888, -1, true},
		{261888, 523776, false},
		{-261887, 523776, false},
		{-261888, 523776, true}, // with the low part 0, one number less below it than above
		{1, 8118527, false},
		{1, 8118528, true},
		{-1, 8118529, true},
		{261888, 8118529, false},
		{-261888, 8118529, true},
		{1, 8380416, false},
		{2, 8380416, false},
		{8380416, 261889, true}, // less 1
		{8380418, 261888, true}, // 1
		{8380417, 261888, false},
		{-8380417, 261889, false},
		{-8380418, 261889, true},
		{523776, 0, true}, // more than DsaGamma2, from here on
		{523777, 261888, true},
		{-523777, 261889, true},
		{523776, 8380416, true},
		{523776, 8118529, false}, // the part 0's first number, and its last
		{523777, 8118529, true},
		{-523776, 261888, false},
		{-523777, 261888, true},
		{523775, 261889, false}, // those of the part 1
		{523776, 261889, true},
		{7856640, 523776, true},
		{4190208, 4190208, true},
		{-4190208, 4190208, true},
		{4190208, -4190208, true},
		{math.MaxInt64, 0, true},
		{1, math.MaxInt64, false},
		{-1, math.MinInt64, false},
		{math.MaxInt64, math.MaxInt64, true},
		{math.MinInt64, math.MinInt64, true},
		{math.MaxInt64 - 5373183, 8380416, false}, // a multiple of q
		{math.MaxInt64 - 5373183, math.MaxInt64, false},
		{8380416, math.MaxInt64 - 5373183, false},
		{math.MinInt64 + 5373184, -8380416, false}, // and below 0
		{math.MinInt64 + 5373184, math.MinInt64, false},
	} {
		if got := round.Hint(x.z, x.r); got != x.want {
			t.Errorf("Hint(%d, %d): got %v, want %v", x.z, x.r, got, x.want)
		}
	}
}

// P8.1 (R3): what hints tell, with low parts above 0, 0, and below 0.
func TestUseByHand(t *testing.T) {
	for _, x := range []struct{ r, without, with int }{
		{0, 0, 15},
		{1, 0, 1},
		{-1, 0, 15},
		{8380416, 0, 15},
		{8380417, 0, 15},
		{8380418, 0, 1},
		{261888, 0, 1},
		{8118529, 0, 15},
		{-261888, 0, 15},
		{261889, 1, 0},
		{523775, 1, 0},
		{523776, 1, 0},
		{523777, 1, 2},
		{785664, 1, 2},
		{785665, 2, 1},
		{3666432, 7, 6},
		{3666433, 7, 8},
		{7332864, 14, 13},
		{7332865, 14, 15},
		{7594752, 14, 15},
		{7594753, 15, 14},
		{7856639, 15, 14},
		{7856640, 15, 14},
		{7856641, 15, 0},
		{8118528, 15, 0},
		{-523777, 15, 14},
		{-523776, 15, 0},
		{-261889, 15, 0},
		{math.MaxInt64, 10, 11},
		{math.MinInt64, 6, 5},
	} {
		if without, with := round.Use(false, x.r), round.Use(true, x.r); without != x.without || with != x.with {
			t.Errorf("Use of %d: got %d, and %d with the hint, want %d and %d", x.r, without, with, x.without, x.with)
		}
	}
}

// P8.1: all calls against the chapter's words, at edges, borders and anywhere, and z and r of all of these.
func TestCalls(t *testing.T) {
	some := append(append(edges(), borders()...), inside(2)...)
	for _, r := range some {
		high, low := plainPower2(r)
		want(t, "Power2", power2(r), pair{high, low})
		high, low = plainParts(r)
		want(t, "Parts", parts(r), pair{high, low})
		for _, hint := range []bool{false, true} {
			want(t, "Use", round.Use(hint, r), plainUse(hint, r))
		}
		for _, z := range some {
			if got := round.Hint(z, r); got != plainHint(z, r) {
				t.Fatalf("Hint(%d, %d): got %v", z, r, got)
			}
		}
	}
}

// wantTold: a hint tells the high part of r + z.
func wantTold(t *testing.T, z, r int) {
	t.Helper()
	is, _ := round.Parts(plainSum(z, r))
	if got := round.Use(round.Hint(z, r), r); got != is {
		t.Fatalf("r %d, z %d: the hint tells %d, not %d", r, z, got, is)
	}
}

// P8.3.
func TestHintTells(t *testing.T) {
	few := []int{0, 1, 2, 4096, 130944, 261886, 261887, 261888}
	for _, r := range append(append(edges(), borders()...), inside(3)...) {
		for _, z := range few {
			wantTold(t, z, r)
			wantTold(t, -z, r)
			wantTold(t, q+z, r) // and as numbers that were brought
			wantTold(t, q-z, r)
		}
		for _, n := range inside(4) {
			wantTold(t, n%(half+1), r)
		}
	}
}

// P8.3: of numbers that stand close together all the way, with the least and the greatest z.
func TestHintTellsAllTheWay(t *testing.T) {
	for r := 0; r < q; r += 7 {
		wantTold(t, half, r)
		wantTold(t, -half, r)
		wantTold(t, r%half, r)
	}
}

// P8.3 ends at DsaGamma2: one more than that, and the hint may tell another high part.
func TestHintOfMore(t *testing.T) {
	want(t, "DsaGamma2", half, api.DsaGamma2)
	want(t, "is there a hint?", round.Hint(half+1, 0), true)
	want(t, "what it tells", round.Use(true, 0), 15)
	want(t, "what is", parts(half+1), pair{1, 1 - half})
}

// P3: what a call answers hangs on its arguments alone.
func TestAskedAnew(t *testing.T) {
	some := append(edges(), inside(5)...)
	type answers struct {
		p2, by    pair
		hint      bool
		use, less int
	}
	ask := func(i int) answers {
		z, r := some[(i+1)%len(some)], some[i]
		return answers{power2(r), parts(r), round.Hint(z, r), round.Use(true, r), round.Use(false, r)}
	}
	var first []answers
	for i := range some {
		first = append(first, ask(i))
	}
	for i := len(some) - 1; i >= 0; i-- {
		want(t, "asked anew", ask(i), first[i])
	}
}
