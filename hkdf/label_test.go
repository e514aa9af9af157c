package hkdf_test

import (
	"bytes"
	"strings"
	"testing"

	"sodality/hkdf"
)

func goodLabels() []string {
	return []string{"", "k", "key", "\x00", "GKA 1.0 ", "\xff\xfe", strings.Repeat("l", 39), strings.Repeat("l", 40), strings.Repeat("é", 20)}
}

func goodContexts() []int { return []int{0, 1, 62, 63, 64, 65, 255, 256, 257, 15999, 16000} }

// P3.1, H3: an info whose every byte is written out here, with a context's length of one byte and of two.
func TestLabelWrittenOut(t *testing.T) {
	key := some(32, 0)
	for _, c := range []struct {
		label   string
		context []byte
		n       int
		info    string
	}{
		{"", nil, 0, "\x00\x00\x08GKA 1.0 \x00"},
		{"", nil, 32, "\x00\x20\x08GKA 1.0 \x00"},
		{"ab", []byte("cde"), 8160, "\x1f\xe0\x0aGKA 1.0 ab\x03cde"},
		{"ab", bytes.Repeat([]byte{7}, 63), 256, "\x01\x00\x0aGKA 1.0 ab\x3f" + strings.Repeat("\x07", 63)},
		{"ab", bytes.Repeat([]byte{7}, 64), 257, "\x01\x01\x0aGKA 1.0 ab\x40\x40" + strings.Repeat("\x07", 64)},
		{strings.Repeat("l", 40), bytes.Repeat([]byte{7}, 16000), 5, "\x00\x05\x30GKA 1.0 " + strings.Repeat("l", 40) + "\x7e\x80" + strings.Repeat("\x07", 16000)},
	} {
		want := standardExpand(key, []byte(c.info), c.n)
		wantBytes(t, "Label", hkdf.Label(key, c.label, c.context, c.n), want)
	}
}

// P3.1, H3: labels and contexts at their edges, each with each.
func TestLabel(t *testing.T) {
	key := some(32, 0)
	for _, label := range goodLabels() {
		for _, c := range goodContexts() {
			context := some(c, 1)
			for _, n := range []int{0, 1, 31, 32, 33, 100} {
				want := standardExpand(key, standardInfo(label, context, n), n)
				wantBytes(t, "Label", hkdf.Label(key, label, context, n), want)
			}
		}
	}
}

func TestLabelOfAllCountsAndKeys(t *testing.T) {
	for _, k := range keyLengths() {
		for _, n := range goodCounts() {
			key, context := some(k, 0), some(20, 1)
			want := standardExpand(key, standardInfo("key", context, n), n)
			wantBytes(t, "Label", hkdf.Label(key, "key", context, n), want)
		}
	}
}

// P3.1, H3: nothing, if a label is longer than 40 bytes (bytes, not runes), or a context than 16000.
func TestLabelsAndContextsThatMayNotBe(t *testing.T) {
	key := some(32, 0)
	for _, label := range []string{strings.Repeat("l", 41), strings.Repeat("l", 248), strings.Repeat("l", 256), strings.Repeat("é", 21), strings.Repeat("l", 100000)} {
		wantNothing(t, "a long label", hkdf.Label(key, label, nil, 32))
		wantNothing(t, "a long label and context", hkdf.Label(key, label, some(16001, 1), 32))
	}
	for _, c := range []int{16001, 16383, 16384, 65536, 1 << 20} {
		wantNothing(t, "a long context", hkdf.Label(key, "key", some(c, 1), 32))
	}
	wantNothing(t, "all of them", hkdf.Label(key, strings.Repeat("l", 41), some(16001, 1), 8161))
}

// P3.3: labels, contexts and lengths that are unlike give unlike keys: also where one's end could be taken for the other's beginning.
func TestUnlikeNamesGiveUnlikeKeys(t *testing.T) {
	key := some(32, 0)
	labels := append(goodLabels(), "a", "ab", "abc", "b", "bc", "c", "a\x00", "a\x01b", "a\x02bc", "a\x00\x00")
	contexts := [][]byte{nil, {0}, {0, 0}, []byte("a"), []byte("b"), []byte("ab"), []byte("bc"), []byte("abc"), make([]byte, 63), make([]byte, 64), make([]byte, 65), make([]byte, 16000), some(64, 1)}
	counts := []int{32, 33, 64, 255, 256, 288, 8160}
	type asked struct{ label, context, n int }
	seen := map[string]asked{}
	for l, label := range labels {
		for c, context := range contexts {
			for i, n := range counts {
				front := string(hkdf.Label(key, label, context, n)[:32])
				if other, ok := seen[front]; ok {
					t.Fatalf("%v and %v have one key", other, asked{l, c, i})
				}
				seen[front] = asked{l, c, i}
			}
		}
	}
}
