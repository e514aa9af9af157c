package ratchet_test

import (
	"math"
	"testing"

	"sodality/hkdf"
	"sodality/ratchet"
	"sodality/trial"
)

func wantNoSecret(t *testing.T, what string, encrypt []byte, deep, leaf int) {
	t.Helper()
	trial.WantBytes(t, what, ratchet.Secret(encrypt, deep, leaf), nil)
}

// someLeaves are edges of a tree so deep, and some more of its leaves.
func someLeaves(deep int) []int {
	many := trial.ManyOf(deep)
	var out []int
	for _, i := range []int{0, 1, 2, 5, many / 3, many/2 - 1, many / 2, many/2 + 1, many - 2, many - 1} {
		if i >= 0 && i < many {
			out = append(out, i)
		}
	}
	return out
}

// P17.1 (V1): each leaf of trees that are not deep.
func TestSecretsOfAllLeaves(t *testing.T) {
	for deep := range 7 {
		for leaf := range trial.ManyOf(deep) {
			for _, encrypt := range trial.Seeds(32, 3) {
				wantSecret(t, encrypt, deep, leaf)
			}
		}
	}
}

// P17.1 (V1): trees of all depths.
func TestSecretsOfDeepTrees(t *testing.T) {
	for deep := range maxDeep + 1 {
		for _, leaf := range someLeaves(deep) {
			wantSecret(t, trial.Ordinary(32, deep), deep, leaf)
		}
	}
}

// P17.1 (V1): where the top is the leaf, there is no step down from it.
func TestSecretOfOneLeaf(t *testing.T) {
	for _, encrypt := range trial.Seeds(32, 5) {
		trial.WantBytes(t, "of a tree of one leaf", ratchet.Secret(encrypt, 0, 0), encrypt)
	}
}

// P17.1 (V1): the two below a spot, by hkdf's own calls: each tree is one of half as many leaves, twice.
func TestSecretsByHkdf(t *testing.T) {
	for deep := range 9 {
		wantBelow(t, trial.Ordinary(32, 10+deep), trial.Ordinary(32, 10+deep), deep, deep, 0)
	}
}

// wantBelow goes down from a spot of a tree whose place is told by the leaf, the first one below it.
func wantBelow(t *testing.T, encrypt, secret []byte, deep, level, leaf int) {
	t.Helper()
	if level == 0 {
		trial.WantBytes(t, "Secret", ratchet.Secret(encrypt, deep, leaf), secret)
		return
	}
	wantBelow(t, encrypt, hkdf.Label(secret, "tree", []byte("left"), 32), deep, level-1, leaf)
	wantBelow(t, encrypt, hkdf.Label(secret, "tree", []byte("right"), 32), deep, level-1, leaf+1<<(level-1))
}

// P17.1 (V1): the secrets of a tree are all unlike, and unlike those of all others but the one that a leaf alone has; so are the first keys.
func TestSecretsAreUnlike(t *testing.T) {
	encrypt := trial.Ordinary(32, 20)
	seen, many := map[string]bool{}, 0
	for deep := range 11 {
		for leaf := range trial.ManyOf(deep) {
			secret := wantSecret(t, encrypt, deep, leaf)
			_, key := wantNext(t, ratchet.New(secret))
			seen[string(secret)], seen[string(key)] = true, true
			many += 2
		}
	}
	trial.WantNumber(t, "unlike secrets and keys", len(seen), many)
}

// P17.1 (V1): a secret hangs on every bit that it is made of.
func TestSecretsHangOnEveryBit(t *testing.T) {
	for _, deep := range []int{0, 1, 6, 16} {
		encrypt := trial.Ordinary(32, 21)
		first := wantSecret(t, encrypt, deep, 0)
		for at := range encrypt {
			for bit := range 8 {
				wantUnlike(t, "another bit", wantSecret(t, trial.Changed(encrypt, at, 1<<bit), deep, 0), first)
			}
		}
	}
}

// P17.1 (V1): nothing, if the leaf is none of a tree so deep.
func TestNoLeaf(t *testing.T) {
	encrypt := trial.Ordinary(32, 22)
	for deep := range maxDeep + 1 {
		many := trial.ManyOf(deep)
		for _, leaf := range []int{-1, -2, -many, many, many + 1, 2*many - 1, 2 * many, 1 << 16, 1<<16 + 1, 1 << 32, 1<<32 + 1, 1 << 62, math.MinInt, math.MinInt + 1, math.MaxInt} {
			wantNoSecret(t, "a leaf that is none", encrypt, deep, leaf)
		}
	}
}

// P17.1 (V1): nothing, if no tree is so deep.
func TestNoDepth(t *testing.T) {
	encrypt := trial.Ordinary(32, 23)
	for _, deep := range []int{-1, -2, -16, 17, 18, 31, 32, 63, 64, 65, 256, 1 << 16, 1<<32 + 2, 1 << 53, 1<<53 + 1, 1 << 62, math.MinInt, math.MinInt + 2, math.MaxInt, math.MaxInt - 1} {
		for _, leaf := range []int{0, 1, 2, 3, 1<<16 - 1, 1 << 16, -1, deep, math.MaxInt, math.MinInt} {
			wantNoSecret(t, "a depth that is none", encrypt, deep, leaf)
		}
	}
}

// P17.1 (V1): nothing, if encrypt has not 32 bytes; with other things wrong too.
func TestNoEncrypt(t *testing.T) {
	for _, n := range append(trial.Around(32), 256+32) {
		for deep := range maxDeep + 1 {
			for _, leaf := range append(someLeaves(deep), -1, trial.ManyOf(deep)) {
				wantNoSecret(t, "an encrypt that is none", trial.Ordinary(n, 24), deep, leaf)
			}
		}
		wantNoSecret(t, "nothing right", trial.Ordinary(n, 24), -1, -1)
	}
	wantNoSecret(t, "nil", nil, 0, 0)
	wantNoSecret(t, "nil", nil, 2, 2)
}
