package sched_test

import (
	"testing"

	"sodality/hkdf"
	"sodality/sched"
	"sodality/trial"
)

// P16.1 (C1): init, commit and context of all lengths, each alone, the others being nothing or ordinary.
func TestJoinerOfEachLength(t *testing.T) {
	for _, n := range edges() {
		for _, other := range [][]byte{nil, {}, ordinary(32, 1), ordinary(16001, 2)} {
			wantJoiner(t, ordinary(n, 3), other, other)
			wantJoiner(t, other, ordinary(n, 4), other)
			wantJoiner(t, other, other, ordinary(n, 5))
		}
	}
}

// P16.1 (C1): and all together.
func TestJoinerOfLengthsTogether(t *testing.T) {
	for _, init := range textsOf(some(), 6) {
		for _, commit := range textsOf(some(), 7) {
			for _, context := range textsOf(some(), 8) {
				wantJoiner(t, init, commit, context)
			}
		}
	}
}

// P16.1 (C1): bytes all 0 and all 255, among them the three being alike.
func TestJoinerOfAlikeBytes(t *testing.T) {
	for _, n := range some() {
		for _, init := range trial.Seeds(n, 1) {
			wantJoiner(t, init, init, init)
			for _, commit := range trial.Seeds(32, 1) {
				wantJoiner(t, init, commit, init)
			}
		}
	}
}

// P16.1 (C1): by hkdf's own calls; nil and no bytes are alike.
func TestJoinerByItsParts(t *testing.T) {
	init, commit, context := ordinary(32, 9), ordinary(32, 10), ordinary(100, 11)
	want := hkdf.Label(hkdf.Extract(init, commit), "joiner", context, 32)
	trial.WantBytes(t, "by hkdf", sched.Joiner(init, commit, context), want)
	none := hkdf.Label(hkdf.Extract(nil, nil), "joiner", nil, 32)
	for mask := range 8 {
		var lists [3][]byte
		for i := range lists {
			if mask>>i&1 == 1 {
				lists[i] = []byte{}
			}
		}
		trial.WantBytes(t, "of nothing", sched.Joiner(lists[0], lists[1], lists[2]), none)
	}
}

// P16.1 (C1), Types: what is longer than 16000 bytes counts as its SHA-256; what is not does not.
func TestJoinerOfLongTexts(t *testing.T) {
	a, b, c := ordinary(32, 12), ordinary(32, 13), ordinary(32, 14)
	for _, n := range edges() {
		long, sum := ordinary(n, 15), plainSum(ordinary(n, 15))
		got := [][]byte{sched.Joiner(long, b, c), sched.Joiner(a, long, c), sched.Joiner(a, b, long), sched.Joiner(long, long, long)}
		want := [][]byte{sched.Joiner(sum, b, c), sched.Joiner(a, sum, c), sched.Joiner(a, b, sum), sched.Joiner(sum, sum, sum)}
		for i := range got {
			if n > most {
				trial.WantBytes(t, "a long one and its sum", got[i], want[i])
			} else if i > 0 || n <= 64 { // as hkdf's own keys do, an init longer than a block counts as its sum
				wantUnlike(t, "one that is not long and its sum", got[i], want[i])
			}
		}
	}
}

// P16.1 (C1), Types: the same bytes with one more behind are others, where they count as their sum too.
func TestJoinerOfOneByteMore(t *testing.T) {
	a, b, c := ordinary(32, 16), ordinary(32, 17), ordinary(32, 18)
	for _, n := range []int{most - 1, most, most + 1, 16383, 70000} {
		for _, more := range []byte{0, 1, 255} {
			long, longer := ordinary(n, 19), trial.Joined(ordinary(n, 19), []byte{more})
			wantUnlike(t, "init", wantJoiner(t, long, b, c), wantJoiner(t, longer, b, c))
			wantUnlike(t, "commit", wantJoiner(t, a, long, c), wantJoiner(t, a, longer, c))
			wantUnlike(t, "context", wantJoiner(t, a, b, long), wantJoiner(t, a, b, longer))
		}
	}
}

// P16.1 (C1): the joiner hangs on every byte of init, commit and context, and on which of them it is in.
func TestJoinerHangsOnEveryByte(t *testing.T) {
	for _, n := range []int{32, 33, 16000, 16001} {
		a, b, c := ordinary(n, 20), ordinary(n, 21), ordinary(n, 22)
		first := wantJoiner(t, a, b, c)
		for _, other := range oneUnlike(a) {
			wantUnlike(t, "another init", first, wantJoiner(t, other, b, c))
		}
		for _, other := range oneUnlike(b) {
			wantUnlike(t, "another commit", first, wantJoiner(t, a, other, c))
		}
		for _, other := range oneUnlike(c) {
			wantUnlike(t, "another context", first, wantJoiner(t, a, b, other))
		}
		for _, x := range [][3][]byte{{a, c, b}, {b, a, c}, {b, c, a}, {c, a, b}, {c, b, a}} {
			wantUnlike(t, "in another order", first, wantJoiner(t, x[0], x[1], x[2]))
		}
	}
}

// P16.1 (C1): a byte that goes from commit to context, or from init to commit, makes another.
func TestJoinerTellsWhereTextsEnd(t *testing.T) {
	b := ordinary(90, 23)
	seen := map[string]bool{}
	for i := range len(b) {
		seen[string(wantJoiner(t, nil, b[:i], b[i:]))] = true
		seen[string(wantJoiner(t, b[:i], b[i:], ordinary(5, 24)))] = true
	}
	trial.WantNumber(t, "unlike joiners", len(seen), 2*len(b))
}

// P16.2: two who have the same init, commit and context have the same joiner, and its keys; over some epochs, each of which begins with the last one's Init.
func TestTwoHaveTheSame(t *testing.T) {
	one, other := ordinary(32, 25), ordinary(32, 25)
	for e := range 20 {
		n := some()[e%len(some())]
		mine := sched.Joiner(one, ordinary(32, 30+e), ordinary(n, 60+e))
		sched.Derive(ordinary(32, e), nil) // what one of them does beside it is nothing to both
		sched.Joiner(ordinary(32, e), nil, nil)
		theirs := sched.Joiner(other, ordinary(32, 30+e), ordinary(n, 60+e))
		trial.WantBytes(t, "their joiners", theirs, mine)
		k, same := sched.Derive(mine, ordinary(n, 60+e)), sched.Derive(theirs, ordinary(n, 60+e))
		wantKeys(t, "their keys", same, k)
		wantKeys(t, "the keys", k, plainDerive(mine, ordinary(n, 60+e)))
		wantUnlike(t, "the next epoch's init", k.Init, one)
		one, other = k.Init, same.Init
	}
}

// P16.2: who is told the joiner, and knows neither init nor commit, has the keys of who made it.
func TestWhoJoinsHasTheSame(t *testing.T) {
	for _, context := range textsOf(some(), 26) {
		joiner := sched.Joiner(ordinary(32, 27), ordinary(32, 28), context)
		k := sched.Derive(joiner, context)
		wantKeys(t, "told", sched.Derive(trial.Joined(joiner), trial.Joined(context)), k)
	}
}
