package sched_test

import (
	"bytes"
	"math"
	"strings"
	"testing"

	"sodality/api"
	"sodality/hkdf"
	"sodality/sched"
	"sodality/sha2"
	"sodality/trial"
)

func counts() []int { return []int{0, 1, 31, 32, 33, 63, 64, 65, 255, 256, 257, 8159, 8160} }

func wrongCounts() []int {
	return []int{-1, -2, -32, -8160, math.MinInt, 8161, 8162, 65536, 65568, 1 << 20, math.MaxInt}
}

// labels are all that may be: of each length, such as stand elsewhere, and such as are no UTF-8.
func labels() []string {
	var out []string
	for _, n := range []int{0, 1, 2, 20, 39, 40} {
		out = append(out, strings.Repeat("l", n), string(make([]byte, n)), strings.Repeat("\xff", n), string(ordinary(n, n)))
	}
	return append(out, "voice", "exported", "export", "epoch", "GKA 1.0 ", "\x80", "\xc3\x28", "\xed\xa0\x80", "\xf4\x90\x80\x80", "a\x00b", strings.Repeat("\u00e9", 20), "\ufffd")
}

// wrongLabels are longer than 40 bytes, of which some are no more than 40 signs.
func wrongLabels() []string {
	out := []string{strings.Repeat("\u00e9", 20) + "l", strings.Repeat("\u20ac", 14), strings.Repeat("\U0001f511", 11)}
	for _, n := range []int{41, 42, 55, 56, 64, 247, 248, 255, 256, 296, 15999, 16000, 16001, 1 << 20} {
		out = append(out, strings.Repeat("l", n), string(make([]byte, n)), strings.Repeat("\xff", n))
	}
	return out
}

// P16.1 (C4), P16.3: as many bytes as are asked for, under labels and of contexts of all lengths.
func TestExportOfLengths(t *testing.T) {
	k := epoch(1)
	for _, label := range labels() {
		for _, context := range append(textsOf(some(), 1), nil) {
			for _, n := range []int{0, 1, 31, 32, 33} {
				wantExported(t, k, label, context, n)
			}
		}
		for _, n := range counts() {
			wantExported(t, k, label, []byte("context"), n)
		}
	}
	for _, context := range textsOf(edges(), 2) {
		for _, n := range counts() {
			wantExported(t, k, "label", context, n)
		}
	}
}

// P16.1 (C4): all counts that may be.
func TestExportOfEveryCount(t *testing.T) {
	k := epoch(2)
	for n := 0; n <= 8160; n++ {
		if n < 300 || n%61 == 0 || n > 8100 {
			wantExported(t, k, "voice", []byte("x"), n)
		}
	}
}

// P16.1 (C4): by hkdf's and sha2's own calls; nil and no bytes are alike.
func TestExportByItsParts(t *testing.T) {
	k := sched.Derive(ordinary(32, 3), ordinary(32, 4))
	for _, n := range []int{1, 20, 32, 8160} {
		want := hkdf.Label(hkdf.Label(k.Export, "voice", nil, 32), "exported", sha2.Sum([]byte("x")), n)
		trial.WantBytes(t, "Export", sched.Export(k, "voice", []byte("x"), n), want)
		none := hkdf.Label(hkdf.Label(k.Export, "", nil, 32), "exported", sha2.Sum(nil), n)
		trial.WantBytes(t, "Export of nil", sched.Export(k, "", nil, n), none)
		trial.WantBytes(t, "Export of no bytes", sched.Export(k, "", []byte{}, n), none)
	}
}

// P16.1 (C4): nothing, if there are not so many bytes, or the label is too long, or both.
func TestNotExported(t *testing.T) {
	for _, k := range []api.Epoch{epoch(3), {}} {
		for _, n := range wrongCounts() {
			for _, context := range [][]byte{nil, []byte("x"), make([]byte, most+1)} {
				wantNotExported(t, "a wrong count", k, "voice", context, n)
				wantNotExported(t, "a wrong count, no label", k, "", context, n)
				wantNotExported(t, "a wrong count, a label too long", k, strings.Repeat("l", 41), context, n)
			}
		}
		for _, label := range wrongLabels() {
			for _, n := range counts() {
				wantNotExported(t, "a label too long", k, label, []byte("x"), n)
			}
			wantNotExported(t, "a label too long, a long context", k, label, make([]byte, most+1), 32)
			wantNotExported(t, "a label too long, no context", k, label, nil, 32)
		}
	}
}

// P16.1 (C4): epochs whose Export is nothing, short and too long: whatever it is, it is a key to hkdf; nil and no bytes are alike.
func TestExportOfOtherEpochs(t *testing.T) {
	for _, export := range append(textsOf(append(edges(), 127, 128, 129), 5), nil) {
		k := epoch(4)
		k.Export = export
		for _, n := range []int{0, 1, 32, 33, 100} {
			wantExported(t, k, "voice", []byte("x"), n)
			wantExported(t, k, "", nil, n)
		}
		if len(export) > most {
			k.Export = plainSum(export)
			trial.WantBytes(t, "a long Export and its sum", wantExported(t, k, "voice", nil, 32), plainExport(export, "voice", nil, 32))
		}
	}
	trial.WantBytes(t, "no epoch", wantExported(t, api.Epoch{}, "", nil, 32), wantExported(t, api.Epoch{Export: []byte{}}, "", nil, 32))
}

// P16.1 (C4): of an epoch's keys Export alone counts, and each of its bytes.
func TestExportAloneCounts(t *testing.T) {
	k := epoch(5)
	first := wantExported(t, k, "voice", []byte("x"), 50)
	trial.WantBytes(t, "an epoch with no other key", wantExported(t, api.Epoch{Export: k.Export}, "voice", []byte("x"), 50), first)
	for i := range names() {
		other := copied(k)
		b := placesOf(&other)[i]
		*b = trial.Changed(*b, 7, 1)
		got := wantExported(t, other, "voice", []byte("x"), 50)
		if names()[i] == "Export" {
			wantUnlike(t, "another Export", got, first)
		} else {
			trial.WantBytes(t, "another "+names()[i], got, first)
		}
	}
	for _, other := range oneUnlike(k.Export) {
		wantUnlike(t, "another Export", wantExported(t, api.Epoch{Export: other}, "voice", []byte("x"), 50), first)
	}
}

// P16.1 (C4), Types: a context longer than 16000 bytes counts as its SHA-256; one that is not does not; with one more byte it is another one.
func TestExportOfLongContexts(t *testing.T) {
	k := epoch(6)
	for _, n := range edges() {
		context := ordinary(n, 6)
		got, bySum := wantExported(t, k, "voice", context, 32), wantExported(t, k, "voice", plainSum(context), 32)
		if n > most {
			trial.WantBytes(t, "a long one and its sum", got, bySum)
		} else {
			wantUnlike(t, "one that is not long and its sum", got, bySum)
		}
		for _, more := range []byte{0, 1, 255} {
			wantUnlike(t, "one byte more", got, wantExported(t, k, "voice", trial.Joined(context, []byte{more}), 32))
		}
	}
}

// P16.1 (C4): unlike labels, and unlike contexts, make unlike bytes; what goes from the one to the other does too.
func TestExportTellsLabelAndContext(t *testing.T) {
	k := epoch(7)
	seen := map[string]bool{}
	unlike := map[string]bool{}
	for _, label := range labels() {
		for _, context := range [][]byte{nil, []byte(label + "x"), {0}, plainSum(nil), plainSum([]byte(label + "x")), ordinary(most, 7), ordinary(most+1, 7)} {
			unlike[label+" "+string(context)] = true
			seen[string(wantExported(t, k, label, context, 32))] = true
		}
	}
	trial.WantNumber(t, "unlike keys", len(seen), len(unlike))
	b := ordinary(40, 8)
	moved := map[string]bool{}
	for i := range len(b) + 1 {
		moved[string(wantExported(t, k, string(b[:i]), b[i:], 32))] = true
	}
	trial.WantNumber(t, "unlike keys, where a byte went to the other", len(moved), len(b)+1)
	for _, other := range oneUnlike(b[:39]) {
		wantUnlike(t, "another label", wantExported(t, k, string(other), b, 32), wantExported(t, k, string(b[:39]), b, 32))
		wantUnlike(t, "another context", wantExported(t, k, "voice", other, 32), wantExported(t, k, "voice", b[:39], 32))
	}
}

// P16.3: fewer exported bytes are no beginning of more: even the first of them are others, as far as so few can tell.
func TestFewerAreNoBeginning(t *testing.T) {
	k := epoch(8)
	var all [][]byte
	for n := 8; n <= 80; n++ {
		all = append(all, wantExported(t, k, "voice", []byte("x"), n))
	}
	for _, n := range []int{255, 256, 257, 264, 288, 8128, 8160} {
		all = append(all, wantExported(t, k, "voice", []byte("x"), n))
	}
	for i, more := range all {
		for _, fewer := range all[:i] {
			if bytes.Equal(more[:8], fewer[:8]) {
				t.Fatalf("%d bytes begin as %d do", len(more), len(fewer))
			}
		}
	}
}

// P16.3: what is exported is none of the epoch's keys, and tells none of another label.
func TestExportedIsNoKey(t *testing.T) {
	k := sched.Derive(ordinary(32, 9), nil)
	for _, label := range []string{"", "export", "exported", "encrypt", "confirm", "member", "init", "epoch", "welcome"} {
		got := wantExported(t, k, label, nil, 32)
		for i, b := range keysOf(k) {
			wantUnlike(t, names()[i], got, b)
		}
		wantUnlike(t, "the key that it is made of", got, hkdf.Label(k.Export, label, nil, 32))
		again := copied(k)
		again.Export = got
		wantUnlike(t, "exported once more", got, wantExported(t, again, label, nil, 32))
	}
}
