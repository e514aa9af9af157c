package wire_test

import (
	"bytes"
	"slices"
	"testing"

	"sodality/api"
	"sodality/trial"
	"sodality/wire"
)

// wantApart ends a test if one of some bytes is a beginning of another one. Sorted, what begins alike stands side by side.
func wantApart(t *testing.T, all [][]byte) {
	t.Helper()
	sorted := slices.Clone(all)
	slices.SortFunc(sorted, bytes.Compare)
	for i := 1; i < len(sorted); i++ {
		if bytes.HasPrefix(sorted[i], sorted[i-1]) {
			t.Fatalf("%d bytes %.40x are a beginning of %d bytes %.40x", len(sorted[i-1]), sorted[i-1], len(sorted[i]), sorted[i])
		}
	}
}

// allBytes are all texts of at most so many bytes of some kinds.
func allBytes(kinds []byte, most int) [][]byte {
	out := [][]byte{nil}
	for from := 0; len(out[from]) < most; from++ {
		for _, v := range kinds {
			out = append(out, append(bytes.Clone(out[from]), v))
		}
	}
	return out
}

func written(t *testing.T, s []byte) []byte {
	t.Helper()
	b, err := wire.Text(s)
	trial.WantErr(t, "Text", err, api.OK)
	return b
}

func writtenList(t *testing.T, l [][]byte) []byte {
	t.Helper()
	b, err := wire.List(l)
	trial.WantErr(t, "List", err, api.OK)
	return b
}

// P11.3: texts of few kinds of bytes, those of each length, and such as begin alike or are a beginning of another one.
func TestUnlikeTexts(t *testing.T) {
	var all [][]byte
	for _, s := range allBytes([]byte{0, 1, 2, 64, 128, 255}, 5) {
		all = append(all, written(t, s))
	}
	for n := 6; n < 700; n++ {
		all = append(all, written(t, make([]byte, n)), written(t, bytes.Repeat([]byte{64}, n)), written(t, bytes.Repeat([]byte{128}, n)))
	}
	for _, n := range edges() {
		if n > 700 {
			s := some(n, 1)
			all = append(all, written(t, s), written(t, trial.Changed(s, 0, 1)), written(t, trial.Changed(s, n-1, 128)))
		}
	}
	wantApart(t, all)
}

// P11.3: lists of few kinds of texts, however many, and such whose texts say the same when they are joined.
func TestUnlikeLists(t *testing.T) {
	texts := [][]byte{nil, {0}, {1}, {0, 0}, {1, 'a'}, {'a', 1}, {64, 64}, make([]byte, 64), plainList([][]byte{nil})}
	var kinds []byte
	for i := range texts {
		kinds = append(kinds, byte(i))
	}
	var all [][]byte
	for _, which := range allBytes(kinds, 5) {
		var l [][]byte
		for _, i := range which {
			l = append(l, texts[i])
		}
		all = append(all, writtenList(t, l))
	}
	wantApart(t, all)
}

// P11.3: one text cut in all ways into a list.
func TestOneTextInAllPieces(t *testing.T) {
	s := []byte("aaaaaaaaaaaaa")
	var all [][]byte
	for cuts := range 1 << (len(s) - 1) {
		var l [][]byte
		from := 0
		for i := range s {
			if i+1 == len(s) || cuts>>i&1 == 1 {
				l, from = append(l, s[from:i+1]), i+1
			}
		}
		all = append(all, writtenList(t, l))
	}
	wantApart(t, all)
}
