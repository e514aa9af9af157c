package sched_test

import (
	"bytes"
	"testing"

	"sodality/api"
	"sodality/sched"
	"sodality/trial"
)

// ordinary are n bytes that look like none in particular, as many as are asked for.
func ordinary(n, which int) []byte {
	var out []byte
	for len(out) < n {
		out = append(out, trial.Ordinary(min(n-len(out), 65536), which+len(out))...)
	}
	return out
}

// edges are lengths around which a text is a key's, or a block's, or counts as its sum, or its length's bytes are more; far more are among them.
func edges() []int {
	return []int{0, 1, 31, 32, 33, 63, 64, 65, 15999, 16000, 16001, 16383, 16384, 16385, 70000, 1 << 20, 1<<20 + 1}
}

// some are those of which many are put together.
func some() []int { return []int{0, 1, 31, 32, 33, 64, 65, 15999, 16000, 16001, 20000} }

// most is how many bytes a text has at most that counts as itself.
const most = 16000

// textsOf are ordinary ones of the lengths.
func textsOf(lengths []int, which int) [][]byte {
	var out [][]byte
	for _, n := range lengths {
		out = append(out, ordinary(n, which))
	}
	return out
}

// oneUnlike are all that lack one byte, have one more, or have one that is another; of long ones, only the first, the middle and the last byte is.
func oneUnlike(b []byte) [][]byte {
	out := [][]byte{trial.Joined(b, []byte{1}), trial.Joined([]byte{1}, b)}
	for at := range b {
		if len(b) <= 64 || at == 0 || at == len(b)/2 || at == len(b)-1 {
			out = append(out, trial.Changed(b, at, 1<<(at%8)), trial.Joined(b[:at], b[at+1:]))
		}
	}
	return out
}

func wantUnlike(t *testing.T, what string, got, other []byte) {
	t.Helper()
	if bytes.Equal(got, other) {
		t.Fatalf("%s: %x is alike", what, got)
	}
}

// wantJoiner, wantDerived, wantSum and wantExported end a test whose answer is another one than in the other way; they answer it.
func wantJoiner(t *testing.T, init, commit, context []byte) []byte {
	t.Helper()
	got := sched.Joiner(init, commit, context)
	trial.WantBytes(t, "Joiner", got, plainJoiner(init, commit, context))
	trial.WantNumber(t, "a joiner's bytes", len(got), 32)
	return got
}

func wantDerived(t *testing.T, joiner, context []byte) api.Epoch {
	t.Helper()
	got := sched.Derive(joiner, context)
	wantKeys(t, "Derive", got, plainDerive(joiner, context))
	return got
}

func wantKeys(t *testing.T, what string, got, want api.Epoch) {
	t.Helper()
	for i, b := range keysOf(want) {
		trial.WantBytes(t, what+", "+names()[i], keysOf(got)[i], b)
		trial.WantNumber(t, "a key's bytes", len(keysOf(got)[i]), 32)
	}
}

func wantSum(t *testing.T, a, b []byte) []byte {
	t.Helper()
	got := sched.Confirmed(a, b)
	trial.WantBytes(t, "Confirmed", got, plainBoth(a, b))
	trial.WantBytes(t, "Interim", sched.Interim(a, b), plainBoth(a, b))
	trial.WantNumber(t, "a sum's bytes", len(got), 32)
	return got
}

func wantExported(t *testing.T, k api.Epoch, label string, context []byte, n int) []byte {
	t.Helper()
	got := sched.Export(k, label, context, n)
	trial.WantBytes(t, "Export", got, plainExport(k.Export, label, context, n))
	trial.WantNumber(t, "exported bytes", len(got), n)
	return got
}

func wantNotExported(t *testing.T, what string, k api.Epoch, label string, context []byte, n int) {
	t.Helper()
	trial.WantBytes(t, what, sched.Export(k, label, context, n), nil)
}

// epoch is one whose keys look like none in particular.
func epoch(which int) api.Epoch {
	var k api.Epoch
	for i, b := range placesOf(&k) {
		*b = ordinary(32, 100*which+i)
	}
	return k
}
