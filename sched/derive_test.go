package sched_test

import (
	"testing"

	"sodality/api"
	"sodality/hkdf"
	"sodality/sched"
	"sodality/trial"
)

// P16.1 (C2), P16.3: the chapter's example, and that the other keys have as many bytes, of whatever they are made.
func TestExample(t *testing.T) {
	for _, joiner := range textsOf(edges(), 1) {
		for i, b := range keysOf(sched.Derive(joiner, joiner)) {
			trial.WantNumber(t, names()[i]+"'s bytes", len(b), 32)
		}
	}
	trial.WantNumber(t, "Init's bytes", len(sched.Derive(nil, nil).Init), 32)
}

// P16.1 (C2): joiner and context of all lengths, alone and together.
func TestDeriveOfLengths(t *testing.T) {
	for _, joiner := range append(textsOf(edges(), 2), nil) {
		for _, context := range append(textsOf(edges(), 3), nil) {
			if len(joiner)+len(context) < 1<<21 {
				wantDerived(t, joiner, context)
			}
		}
	}
}

// P16.1 (C2): joiners of all lengths around a block of hkdf's, and contexts around those whose length has two bytes.
func TestDeriveOfEveryShortLength(t *testing.T) {
	for n := range 150 {
		wantDerived(t, ordinary(n, 4), ordinary(n, 5))
	}
}

// P16.1 (C2): bytes all 0 and all 255; nil and no bytes are alike.
func TestDeriveOfAlikeBytes(t *testing.T) {
	for _, n := range some() {
		for _, joiner := range trial.Seeds(n, 1) {
			for _, context := range trial.Seeds(n, 1) {
				wantDerived(t, joiner, context)
			}
		}
	}
	none := plainDerive(nil, nil)
	for _, b := range [][]byte{nil, {}} {
		for _, c := range [][]byte{nil, {}} {
			wantKeys(t, "of nothing", sched.Derive(b, c), none)
		}
	}
}

// P16.1 (C2): each of the keys by itself, by hkdf's own calls.
func TestEachKeyByItself(t *testing.T) {
	for _, n := range []int{0, 1, 32, 16000} {
		joiner, context := ordinary(32, 6), ordinary(n, 7)
		k := sched.Derive(joiner, context)
		m := hkdf.Extract(joiner, make([]byte, 32))
		trial.WantBytes(t, "Welcome", k.Welcome, hkdf.Label(m, "welcome", nil, 32))
		trial.WantBytes(t, "Secret", k.Secret, hkdf.Label(m, "epoch", context, 32))
		trial.WantBytes(t, "Encrypt", k.Encrypt, hkdf.Label(k.Secret, "encrypt", nil, 32))
		trial.WantBytes(t, "Export", k.Export, hkdf.Label(k.Secret, "export", nil, 32))
		trial.WantBytes(t, "Confirm", k.Confirm, hkdf.Label(k.Secret, "confirm", nil, 32))
		trial.WantBytes(t, "Member", k.Member, hkdf.Label(k.Secret, "member", nil, 32))
		trial.WantBytes(t, "Init", k.Init, hkdf.Label(k.Secret, "init", nil, 32))
	}
}

// P16.1 (C2), P16.3: all of an epoch's keys are unlike, and unlike the joiner.
func TestKeysAreUnlike(t *testing.T) {
	for _, n := range some() {
		joiner := ordinary(32, 8)
		seen := map[string]bool{string(joiner): true}
		for _, b := range keysOf(wantDerived(t, joiner, ordinary(n, 9))) {
			seen[string(b)] = true
		}
		trial.WantNumber(t, "unlike keys", len(seen), 8)
	}
}

// P16.1 (C2), Types: what is longer than 16000 bytes counts as its SHA-256; what is not does not.
func TestDeriveOfLongTexts(t *testing.T) {
	joiner, context := ordinary(32, 10), ordinary(50, 11)
	for _, n := range edges() {
		long, sum := ordinary(n, 12), plainSum(ordinary(n, 12))
		if n > most {
			wantKeys(t, "a long joiner and its sum", sched.Derive(long, context), sched.Derive(sum, context))
			wantKeys(t, "a long context and its sum", sched.Derive(joiner, long), sched.Derive(joiner, sum))
			wantKeys(t, "both, and their sums", sched.Derive(long, long), sched.Derive(sum, sum))
			continue
		}
		wantOthers(t, "a context that is not long, and its sum", sched.Derive(joiner, long), sched.Derive(joiner, sum), true)
		if n <= 64 { // as hkdf's own keys do, a joiner longer than a block counts as its sum
			wantOthers(t, "a joiner that is not long, and its sum", sched.Derive(long, context), sched.Derive(sum, context), false)
		}
	}
}

// wantOthers ends a test if a key is alike: Welcome is, where only the context is another one.
func wantOthers(t *testing.T, what string, got, other api.Epoch, sameWelcome bool) {
	t.Helper()
	for i, b := range keysOf(got) {
		if i == 0 && sameWelcome {
			trial.WantBytes(t, what+", Welcome", other.Welcome, got.Welcome)
			continue
		}
		wantUnlike(t, what+", "+names()[i], b, keysOf(other)[i])
	}
}

// P16.1 (C2): each key is another one when one byte of the joiner is; and when one byte of the context is, but for Welcome, that is told who does not know the context yet.
func TestKeysHangOnEveryByte(t *testing.T) {
	for _, n := range []int{32, 33, 16000, 16001} {
		joiner, context := ordinary(n, 13), ordinary(n, 14)
		k := wantDerived(t, joiner, context)
		for _, other := range oneUnlike(joiner) {
			wantOthers(t, "another joiner", k, wantDerived(t, other, context), false)
		}
		for _, other := range oneUnlike(context) {
			wantOthers(t, "another context", k, wantDerived(t, joiner, other), true)
		}
		wantOthers(t, "one for the other", k, wantDerived(t, context, joiner), false)
	}
}

// P16.1 (C2), Types: the same bytes with one more behind are others, where they count as their sum too.
func TestDeriveOfOneByteMore(t *testing.T) {
	joiner, context := ordinary(32, 15), ordinary(32, 16)
	for _, n := range []int{most - 1, most, most + 1, 16383, 70000} {
		for _, more := range []byte{0, 1, 255} {
			long, longer := ordinary(n, 17), trial.Joined(ordinary(n, 17), []byte{more})
			wantOthers(t, "joiner", wantDerived(t, long, context), wantDerived(t, longer, context), false)
			wantOthers(t, "context", wantDerived(t, joiner, long), wantDerived(t, joiner, longer), true)
		}
	}
}

// P16.1 (C1, C2): the joiner is not made as a key is, whatever stands in init's place and in its own.
func TestJoinerIsNoKey(t *testing.T) {
	b := ordinary(32, 18)
	joiner := wantJoiner(t, b, make([]byte, 32), b)
	for i, key := range keysOf(wantDerived(t, b, b)) {
		wantUnlike(t, names()[i], joiner, key)
	}
}
