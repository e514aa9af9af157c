package mldsa_test

import (
	"bytes"
	"fmt"
	"slices"
	"testing"

	"sodality/api"
	"sodality/mldsa"
	"sodality/pack"
	"sodality/trial"
)

// openKey is a public key whose T1 is nothing: a ball has no part in what a signature tells with it, so that anybody can make one, of whatever Z and hints.
func openKey(t *testing.T) []byte {
	t.Helper()
	pk, err := pack.PutPublic(api.Public{Rho: trial.Ordinary(32, 1)})
	trial.WantErr(t, "PutPublic", err, api.OK)
	return pk
}

// forged is a signature for the open key, of a message and a context.
func forged(t *testing.T, message, context []byte, z [5]api.Poly, h [6]api.Poly) []byte {
	t.Helper()
	w := plainTimes(plainMatrix(trial.Ordinary(32, 1)), z)
	for i := range w {
		for j, n := range w[i] {
			w[i][j] = plainUse(h[i][j], n)
		}
	}
	mu := plainMessageSum(plainSum(64, openKey(t)), message, context)
	s, err := pack.PutSignature(api.Signature{C: plainChallenge(mu, w), Z: z, H: h})
	trial.WantErr(t, "PutSignature", err, api.OK)
	return s
}

// someZ is of numbers that may be, some of them as great as they may.
func someZ(which int) [5]api.Poly {
	var z [5]api.Poly
	for i := range z {
		z[i] = bounded(which+i, -524091, 524091)
	}
	z[1], z[2] = far(which+1, -524091, 524091), trial.All(524091)
	return z
}

// someHints are so many, anywhere.
func someHints(which, many int) [6]api.Poly {
	var h [6]api.Poly
	for _, b := range trial.Ordinary(2000, which) {
		if k := many % 6; many > 0 && h[k][b] == 0 {
			h[k][b] = 1
			many--
		}
	}
	return h
}

// P10.1 (G6): any Z within the bound, and any hints, against the published standard.
func TestVerifyForged(t *testing.T) {
	pk := openKey(t)
	for which := range 19 {
		message, context := trial.Ordinary(which, 1), trial.Ordinary(3*which, 2)
		s := forged(t, message, context, someZ(10*which), someHints(which, 3*which))
		wantVerified(t, "forged", pk, message, context, s, true)
		if !theirVerified(t, pk, message, context, s) {
			t.Fatal("forged: they do not verify it")
		}
		wantVerified(t, "of another message", pk, trial.Joined(message, []byte{1}), context, s, false)
		wantVerified(t, "of another context", pk, message, trial.Joined(context, []byte{1}), s, false)
	}
}

// P10.1 (G6): a number of Z may be 524091 far from 0, not 524092 or more, wherever it stands, and whatever its sign.
func TestBoundOfZ(t *testing.T) {
	pk := openKey(t)
	for _, n := range []int{524090, 524091, 524092, 524093, 524286, 524287, 524288} {
		for _, k := range []int{0, 2, 4} {
			for _, i := range []int{0, 100, 255} {
				for _, sign := range []int{1, -1} {
					if sign*n < -524287 { // no bytes hold it
						continue
					}
					z := someZ(1)
					z[k][i] = sign * n
					s := forged(t, []byte("x"), nil, z, api.Signature{}.H)
					wantVerified(t, fmt.Sprint(sign*n, " at ", i, " of ", k), pk, []byte("x"), nil, s, n < 524092)
				}
			}
		}
	}
}

// P10.1 (G6): each hint has its part: without it, or with one more, a signature is none, and with as many as there may be it is one.
func TestHints(t *testing.T) {
	pk := openKey(t)
	for _, many := range []int{0, 1, 6, 54, 55} {
		h := someHints(many, many)
		s := forged(t, nil, nil, someZ(2), h)
		wantVerified(t, fmt.Sprint(many, " hints"), pk, nil, nil, s, true)
		signature, err := pack.GetSignature(s)
		trial.WantErr(t, "GetSignature", err, api.OK)
		for k := range h {
			for i := range h[k] {
				other := signature
				other.H[k][i] = 1 - h[k][i]
				if b, err := pack.PutSignature(other); err == api.OK && (h[k][i] == 1 || i%16 == k) {
					wantVerified(t, "another hint", pk, nil, nil, b, false)
				}
			}
		}
	}
}

// P10.1 (G6): hints' bytes that are none, though they seem to say the same.
func TestHintsBytesThatAreNone(t *testing.T) {
	const at = 3248 // behind C and Z
	pk := openKey(t)
	h := [6]api.Poly{{3: 1, 9: 1, 20: 1}, {}, {0: 1, 255: 1}, {}, {}, {7: 1}}
	s := forged(t, nil, nil, someZ(3), h)
	wantVerified(t, "as it was", pk, nil, nil, s, true)
	trial.WantBytes(t, "places", s[at:at+8], []byte{3, 9, 20, 0, 255, 7, 0, 0})
	trial.WantBytes(t, "counts", s[at+55:], []byte{3, 3, 5, 5, 5, 6})
	for _, x := range []struct {
		name   string
		places []byte
		counts []byte
	}{
		{"places that fall", []byte{9, 3, 20, 0, 255, 7}, []byte{3, 3, 5, 5, 5, 6}},
		{"a place twice", []byte{3, 9, 20, 20, 0, 255, 7}, []byte{4, 4, 6, 6, 6, 7}},
		{"a byte behind the last place", []byte{3, 9, 20, 0, 255, 7, 1}, []byte{3, 3, 5, 5, 5, 6}},
		{"the last byte", append([]byte{3, 9, 20, 0, 255, 7}, append(make([]byte, 48), 1)...), []byte{3, 3, 5, 5, 5, 6}},
		{"counts that fall", []byte{3, 9, 20, 0, 255, 7}, []byte{3, 2, 5, 5, 5, 6}},
		{"a count of 56", []byte{3, 9, 20, 0, 255, 7}, []byte{3, 3, 5, 5, 5, 56}},
		{"a count of 255", []byte{3, 9, 20, 0, 255, 7}, []byte{3, 3, 5, 5, 255, 6}},
	} {
		b := slices.Concat(s[:at], x.places, make([]byte, 55-len(x.places)), x.counts)
		wantVerified(t, x.name, pk, nil, nil, b, false)
	}
}

// P10.2: a signature with any byte changed is none.
func TestOneByteChanged(t *testing.T) {
	pk, sk := ordinary(t)
	s := signed(t, sk, []byte("hello"), []byte("x"), noCoins())
	for at := range s {
		wantVerified(t, fmt.Sprint("byte ", at, " changed"), pk, []byte("hello"), []byte("x"), trial.Changed(s, at, 1<<(at%8)), false)
	}
	for at := range 48 {
		wantVerified(t, "another C", pk, []byte("hello"), []byte("x"), trial.Changed(s, at, 255), false)
	}
	open := forged(t, nil, nil, someZ(4), someHints(4, 10))
	for at := range 48 {
		wantVerified(t, "another C for the open key", openKey(t), nil, nil, trial.Changed(open, at, 1<<(at%8)), false)
	}
}

// P10.2: C, Z and hints of unlike signatures do not go together.
func TestMixedSignatures(t *testing.T) {
	pk, sk := ordinary(t)
	a := signed(t, sk, []byte("a"), nil, noCoins())
	b := signed(t, sk, []byte("a"), nil, trial.Ordinary(32, 1))
	for which := range 8 {
		mixed := trial.Joined(a)
		for k, part := range [][2]int{{0, 48}, {48, 3248}, {3248, 3309}} {
			if which>>k&1 == 1 {
				copy(mixed[part[0]:part[1]], b[part[0]:])
			}
		}
		wantVerified(t, fmt.Sprint("mixed ", which), pk, []byte("a"), nil, mixed, which == 0 || which == 7)
	}
}

// P10.2: with another public key, of another seed or with one byte changed, a signature is none.
func TestAnotherKey(t *testing.T) {
	pk, sk := ordinary(t)
	s := signed(t, sk, []byte("hello"), nil, noCoins())
	wantVerified(t, "its own key", pk, []byte("hello"), nil, s, true)
	for _, seed := range trial.Seeds(32, 5) {
		other, _ := keysOf(t, seed)
		wantVerified(t, "another key", other, []byte("hello"), nil, s, false)
	}
	for at := 0; at < 1952; at += 13 {
		wantVerified(t, "a byte of the key changed", trial.Changed(pk, at, 1<<(at%8)), []byte("hello"), nil, s, false)
	}
}

// P10.2: with another message, or context, a signature is none.
func TestAnotherMessage(t *testing.T) {
	pk, sk := ordinary(t)
	message, context := trial.Ordinary(300, 1), trial.Ordinary(255, 2)
	s := signed(t, sk, message, context, noCoins())
	wantVerified(t, "its own", pk, message, context, s, true)
	for at := 0; at < 300; at += 7 {
		wantVerified(t, "another message", pk, trial.Changed(message, at, 1), context, s, false)
	}
	for at := 0; at < 255; at += 7 {
		wantVerified(t, "another context", pk, message, trial.Changed(context, at, 1), s, false)
	}
	wantVerified(t, "a byte fewer", pk, message[:299], context, s, false)
	wantVerified(t, "a byte more", pk, trial.Joined(message, []byte{0}), context, s, false)
	wantVerified(t, "a context with a byte fewer", pk, message, context[:254], s, false)
	wantVerified(t, "no context", pk, message, nil, s, false)
	wantVerified(t, "no message", pk, nil, context, s, false)
	wantVerified(t, "each for the other", pk, context, message[:255], s, false)
}

// P10.1 (G6): a context of 255 bytes may be, one of 256 not, though its length would be told as 0; nor a message of more than MaxHash.
func TestVerifyLimits(t *testing.T) {
	pk := openKey(t)
	for _, n := range []int{254, 255, 256, 257, 511, 512} {
		context := trial.Ordinary(n, 1)
		s := forged(t, nil, context, someZ(5), someHints(5, 5))
		wantVerified(t, fmt.Sprint("a context of ", n), pk, nil, context, s, n < 256)
	}
	for _, n := range []int{1<<20 - 1, 1 << 20, 1<<20 + 1, 1<<20 + 2} {
		message := bytes.Repeat([]byte{7}, n)
		s := forged(t, message, nil, someZ(5), someHints(5, 5))
		wantVerified(t, fmt.Sprint("a message of ", n), pk, message, nil, s, n <= 1<<20)
	}
}

// P10.1 (G6): keys and signatures of other lengths are none.
func TestVerifyOfWrongLengths(t *testing.T) {
	pk, sk := ordinary(t)
	s := signed(t, sk, nil, nil, noCoins())
	wantVerified(t, "right lengths", pk, nil, nil, s, true)
	for _, other := range [][]byte{nil, {}, pk[1:], pk[:1951], trial.Joined(pk, []byte{0}), sk, s, pk[:32]} {
		wantVerified(t, fmt.Sprint("a key of ", len(other)), other, nil, nil, s, false)
	}
	for _, other := range [][]byte{nil, {}, s[1:], s[:3308], trial.Joined(s, []byte{0}), pk, sk, s[:48]} {
		wantVerified(t, fmt.Sprint("a signature of ", len(other)), pk, nil, nil, other, false)
	}
	for _, n := range append(trial.Around(1952), 3309) {
		wantVerified(t, fmt.Sprint("a key of ", n), make([]byte, n), nil, nil, s, false)
	}
	for _, n := range append(trial.Around(3309), 1952) {
		wantVerified(t, fmt.Sprint("a signature of ", n), pk, nil, nil, make([]byte, n), false)
	}
}

// P10.1 (G6): bytes as they come, as keys and as signatures, against a second telling and the published standard.
func TestVerifyOfBytes(t *testing.T) {
	_, sk := ordinary(t)
	s := signed(t, sk, nil, nil, noCoins())
	for _, key := range trial.Seeds(1952, 2) {
		for _, bad := range append(trial.Seeds(3309, 2), s) {
			wantVerified(t, "of bytes", key, nil, nil, bad, false)
		}
	}
	for which, key := range nobodysKeys(t) { // theirs may be verified, or not, with the public key that has their other half
		k, err := pack.GetSecret(key)
		trial.WantErr(t, "GetSecret", err, api.OK)
		pk, right := plainKeysOf(k.Rho, k.Key, k.S1, k.S2)
		tr := trial.Joined(key[:64], right[64:128], key[128:])
		s := signed(t, tr, []byte("x"), nil, noCoins())
		want := plainVerify(pk, []byte("x"), nil, s)
		wantVerified(t, fmt.Sprint("nobody's key ", which), pk, []byte("x"), nil, s, want)
		if theirVerified(t, pk, []byte("x"), nil, s) != want {
			t.Fatal("they say something else")
		}
		wantVerified(t, "its right half", pk, []byte("x"), nil, signed(t, right, []byte("x"), nil, noCoins()), true)
	}
}

// P10.2: a signature is verified as often as one likes, between others that are none.
func TestVerifyAnew(t *testing.T) {
	pk, sk := ordinary(t)
	s := signed(t, sk, []byte("x"), nil, noCoins())
	for range 3 {
		wantVerified(t, "as it is", pk, []byte("x"), nil, s, true)
		wantVerified(t, "another message", pk, []byte("y"), nil, s, false)
		wantVerified(t, "no key", nil, []byte("x"), nil, s, false)
	}
	if !mldsa.Verify(pk, []byte("x"), []byte{}, s) {
		t.Error("an empty context is another one than none")
	}
}
