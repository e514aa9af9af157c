package mldsa_test

import (
	"bytes"
	theirs "crypto/mldsa"
	"testing"

	"sodality/api"
	"sodality/mldsa"
	"sodality/trial"
)

func keysOf(t *testing.T, seed []byte) (pk, sk []byte) {
	t.Helper()
	pk, sk, err := mldsa.Keys(seed)
	trial.WantErr(t, "Keys", err, api.OK)
	return pk, sk
}

// theirKey is the language's own ML-DSA's.
func theirKey(t *testing.T, seed []byte) *theirs.PrivateKey {
	t.Helper()
	k, err := theirs.NewPrivateKey(theirs.MLDSA65(), seed)
	if err != nil {
		t.Fatal(err)
	}
	return k
}

// P10.1 (G4): keys of ordinary seeds, and of bytes that are all alike, against a second telling.
func TestKeys(t *testing.T) {
	for _, seed := range trial.Seeds(32, 6) {
		pk, sk := keysOf(t, seed)
		wantPk, wantSk := plainKeys(seed)
		trial.WantBytes(t, "the public key", pk, wantPk)
		trial.WantBytes(t, "the secret key", sk, wantSk)
	}
}

// P10.1 (G4): public keys are those of the published standard; so are secret ones, as far as signatures tell.
func TestPublishedKeys(t *testing.T) {
	for _, seed := range trial.Seeds(32, 100) {
		pk, _ := keysOf(t, seed)
		trial.WantBytes(t, "the public key", pk, theirKey(t, seed).PublicKey().Bytes())
	}
}

// P10.1 (G4): how long keys are, that both begin with the same 32 bytes, and that the secret one holds the public one's sum.
func TestPartsOfKeys(t *testing.T) {
	for _, seed := range trial.Seeds(32, 10) {
		pk, sk := keysOf(t, seed)
		if len(pk) != 1952 || len(sk) != 4032 {
			t.Fatalf("keys of %d and %d bytes", len(pk), len(sk))
		}
		trial.WantBytes(t, "the first 32 bytes", sk[:32], pk[:32])
		trial.WantBytes(t, "the sum", sk[64:128], plainSum(64, pk))
		all := plainSum(128, seed, []byte{6, 5})
		trial.WantBytes(t, "r", pk[:32], all[:32])
		trial.WantBytes(t, "K", sk[32:64], all[96:])
	}
}

// P10.1 (G4): each byte of a seed has its part in all that keys have.
func TestUnlikeKeys(t *testing.T) {
	seed := trial.Ordinary(32, 5)
	pk, sk := keysOf(t, seed)
	for at := range seed {
		pk2, sk2 := keysOf(t, trial.Changed(seed, at, 1))
		for _, part := range [][2]int{{0, 32}, {32, 1952}} {
			if bytes.Equal(pk[part[0]:part[1]], pk2[part[0]:part[1]]) {
				t.Errorf("byte %d has no part in %v of the public key", at, part)
			}
		}
		for _, part := range [][2]int{{0, 32}, {32, 64}, {64, 128}, {128, 768}, {768, 1536}, {1536, 4032}} {
			if bytes.Equal(sk[part[0]:part[1]], sk2[part[0]:part[1]]) {
				t.Errorf("byte %d has no part in %v of the secret key", at, part)
			}
		}
	}
}

// P10.1 (G4), P2.
func TestKeysOfWrongLengths(t *testing.T) {
	try := func(what string, seed []byte) {
		t.Helper()
		pk, sk, err := mldsa.Keys(seed)
		trial.WantErr(t, what, err, api.ErrArg)
		trial.WantBytes(t, what, trial.Joined(pk, sk), nil)
	}
	for _, n := range append(trial.Around(32), 34, 48, 66) {
		try("a wrong seed", make([]byte, n))
		try("a wrong seed", trial.Ordinary(n, 1))
	}
	try("nil", nil)
}

// P10.4: the same seed, asked anew behind others.
func TestKeysAnew(t *testing.T) {
	seeds := trial.Seeds(32, 5)
	var first [][]byte
	for _, seed := range seeds {
		pk, sk := keysOf(t, seed)
		first = append(first, trial.Joined(pk, sk))
	}
	for i := len(seeds) - 1; i >= 0; i-- {
		pk, sk := keysOf(t, seeds[i])
		trial.WantBytes(t, "keys anew", trial.Joined(pk, sk), first[i])
	}
}
