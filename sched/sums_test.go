package sched_test

import (
	"testing"

	"sodality/sched"
	"sodality/sha2"
	"sodality/trial"
	"sodality/wire"
)

// P16.1 (C3): interim and content, confirmed and tag, of all lengths, each alone and together; nil and no bytes are alike.
func TestSumsOfLengths(t *testing.T) {
	for _, a := range append(textsOf(edges(), 1), nil) {
		for _, b := range append(textsOf(edges(), 2), nil) {
			if len(a)+len(b) < 1<<21 {
				wantSum(t, a, b)
			}
		}
	}
	none := plainSum([]byte{0, 0})
	for _, b := range [][]byte{nil, {}} {
		for _, c := range [][]byte{nil, {}} {
			trial.WantBytes(t, "of nothing", wantSum(t, b, c), none)
		}
	}
}

// P16.1 (C3): of every length up to some, and bytes all 0 and all 255.
func TestSumsOfEveryShortLength(t *testing.T) {
	for n := range 200 {
		wantSum(t, ordinary(n, 3), ordinary(200-n, 4))
	}
	for _, n := range some() {
		for _, a := range trial.Seeds(n, 1) {
			for _, b := range trial.Seeds(n, 1) {
				wantSum(t, a, b)
			}
		}
	}
}

// P16.1 (C3): by wire's and sha2's own calls.
func TestSumsByTheirParts(t *testing.T) {
	for _, n := range []int{0, 1, 63, 64, 15999, 16000} {
		a, b := ordinary(n, 5), ordinary(most-n, 6)
		first, _ := wire.Text(a)
		second, _ := wire.Text(b)
		want := sha2.Sum(trial.Joined(first, second))
		trial.WantBytes(t, "Confirmed", sched.Confirmed(a, b), want)
		trial.WantBytes(t, "Interim", sched.Interim(a, b), want)
	}
	trial.WantBytes(t, "Confirmed", sched.Confirmed([]byte("a"), []byte("bc")), plainSum([]byte("\x01a\x02bc")))
	trial.WantBytes(t, "Interim", sched.Interim([]byte("a"), []byte("bc")), plainSum([]byte("\x01a\x02bc")))
}

// P16.1 (C3), Types: what is longer than 16000 bytes counts as its SHA-256, far more than a text of wire's may have too; what is not does not.
func TestSumsOfLongTexts(t *testing.T) {
	other := ordinary(40, 7)
	for _, n := range append(edges(), 3<<20) {
		long, sum := ordinary(n, 8), plainSum(ordinary(n, 8))
		got := [][]byte{wantSum(t, long, other), wantSum(t, other, long), wantSum(t, long, long)}
		want := [][]byte{wantSum(t, sum, other), wantSum(t, other, sum), wantSum(t, sum, sum)}
		for i := range got {
			if n > most {
				trial.WantBytes(t, "a long one and its sum", got[i], want[i])
			} else {
				wantUnlike(t, "one that is not long and its sum", got[i], want[i])
			}
		}
	}
}

// P16.1 (C3), Types: the same bytes with one more behind are others, where they count as their sum too.
func TestSumsOfOneByteMore(t *testing.T) {
	other := ordinary(40, 9)
	for _, n := range edges() {
		for _, more := range []byte{0, 1, 255} {
			b := ordinary(n, 10)
			longer := trial.Joined(b, []byte{more})
			wantUnlike(t, "the first", wantSum(t, b, other), wantSum(t, longer, other))
			wantUnlike(t, "the second", wantSum(t, other, b), wantSum(t, other, longer))
		}
	}
}

// P16.1 (C3): one byte that goes from the one text to the other makes another sum, wherever it is.
func TestSumsTellWhereTextsEnd(t *testing.T) {
	for _, b := range [][]byte{ordinary(300, 11), make([]byte, 300), ordinary(16383, 12), ordinary(16384, 13), ordinary(32001, 14)} {
		seen, many := map[string]bool{}, 0
		for i := range len(b) + 1 {
			if len(b) <= 300 || i < 70 || len(b)-i < 70 || i > 15990 && i < 16010 {
				seen[string(wantSum(t, b[:i], b[i:]))] = true
				many++
			}
		}
		trial.WantNumber(t, "unlike sums", len(seen), many)
	}
}

// P16.1 (C3): the bytes of a length count as any others: moved into a text they make another sum.
func TestLengthsInTexts(t *testing.T) {
	for _, n := range []int{1, 62, 63, 64, 100} {
		a, b := ordinary(n, 15), ordinary(n, 16)
		first := wantSum(t, a, b)
		for _, x := range [][2][]byte{
			{plainText(a), b}, {a, plainText(b)}, {nil, trial.Joined(a, plainText(b))}, {trial.Joined(a, plainText(b)), nil},
			{trial.Joined(plainText(a), plainText(b)), nil}, {nil, trial.Joined(plainText(a), plainText(b))}, {trial.Joined(a, b), nil}, {b, a},
		} {
			wantUnlike(t, "put together otherwise", first, wantSum(t, x[0], x[1]))
		}
	}
}

// P16.1 (C3): a sum hangs on every byte.
func TestSumsHangOnEveryByte(t *testing.T) {
	for _, n := range []int{32, 64, 16000, 16001} {
		a, b := ordinary(n, 17), ordinary(n, 18)
		first := wantSum(t, a, b)
		for _, other := range oneUnlike(a) {
			wantUnlike(t, "another first", first, wantSum(t, other, b))
		}
		for _, other := range oneUnlike(b) {
			wantUnlike(t, "another second", first, wantSum(t, a, other))
		}
	}
}

// P16.1 (C3): all that was committed so far: a row of contents, and of their tags, of which one is another, makes all sums behind it others.
func TestSumsOfARow(t *testing.T) {
	row := func(unlike int) (sums [][]byte) {
		interim := []byte(nil)
		for e := range 12 {
			content, tag := ordinary(1000+2000*e, 20+e), ordinary(32, 40+e)
			if e == unlike {
				tag[31] ^= 1
			}
			confirmed := wantSum(t, interim, content)
			interim = wantSum(t, confirmed, tag)
			sums = append(sums, confirmed, interim)
		}
		return sums
	}
	first := row(-1)
	for unlike := range 12 {
		for i, sum := range row(unlike) {
			if i <= 2*unlike {
				trial.WantBytes(t, "ahead of it", sum, first[i])
			} else {
				wantUnlike(t, "behind it", sum, first[i])
			}
		}
	}
}
