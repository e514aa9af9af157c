package mldsa_test

import (
	"bytes"
	theirs "crypto/mldsa"
	"fmt"
	"testing"

	"sodality/api"
	"sodality/mldsa"
	"sodality/pack"
	"sodality/trial"
)

func signed(t *testing.T, sk, message, context, coins []byte) []byte {
	t.Helper()
	s, err := mldsa.Sign(sk, message, context, coins)
	trial.WantErr(t, "Sign", err, api.OK)
	return s
}

func wantVerified(t *testing.T, what string, pk, message, context, signature []byte, want bool) {
	t.Helper()
	if mldsa.Verify(pk, message, context, signature) != want {
		t.Fatalf("%s: verified is %v, want %v", what, !want, want)
	}
}

// theirSigned is signed with coins that are 0.
func theirSigned(t *testing.T, k *theirs.PrivateKey, message, context []byte) []byte {
	t.Helper()
	s, err := k.SignDeterministic(message, &theirs.Options{Context: string(context)})
	if err != nil {
		t.Fatal(err)
	}
	return s
}

func theirVerified(t *testing.T, pk, message, context, signature []byte) bool {
	t.Helper()
	k, err := theirs.NewPublicKey(theirs.MLDSA65(), pk)
	if err != nil {
		t.Fatal(err)
	}
	return theirs.Verify(k, message, signature, &theirs.Options{Context: string(context)}) == nil
}

// ordinary are keys of a seed that is like any other.
func ordinary(t *testing.T) (pk, sk []byte) {
	t.Helper()
	return keysOf(t, trial.Ordinary(32, 100))
}

// noCoins are such as the published standard's signatures without chance are made of.
func noCoins() []byte { return make([]byte, 32) }

// bounded is a polynomial of any numbers from least to most.
func bounded(which, least, most int) api.Poly {
	p := trial.Modulus(most - least + 1).Brought(trial.Wild(which))
	return plainEach(p, func(n int) int { return n + least })
}

// far is a polynomial of least and most alone.
func far(which, least, most int) api.Poly {
	return plainEach(trial.Wild(which), func(n int) int {
		if n > 0 {
			return most
		}
		return least
	})
}

// keyWith is a secret key whose numbers are told by their kind's number, least and greatest.
func keyWith(t *testing.T, of func(which, least, most int) api.Poly) []byte {
	t.Helper()
	k := api.Secret{Rho: trial.Ordinary(32, 1), Key: trial.Ordinary(32, 2), Tr: trial.Ordinary(64, 3)}
	for i := range k.S1 {
		k.S1[i] = of(10+i, -4, 4)
	}
	for i := range k.S2 {
		k.S2[i], k.T0[i] = of(20+i, -4, 4), of(30+i, -4095, 4096)
	}
	sk, err := pack.PutSecret(k)
	trial.WantErr(t, "PutSecret", err, api.OK)
	return sk
}

// nobodysKeys are keys that Keys did not make: of noughts, of the least and of the greatest numbers, of either at random, and of any.
func nobodysKeys(t *testing.T) [][]byte {
	t.Helper()
	return [][]byte{
		keyWith(t, func(_, _, _ int) api.Poly { return api.Poly{} }),
		keyWith(t, func(_, least, _ int) api.Poly { return trial.All(least) }),
		keyWith(t, func(_, _, most int) api.Poly { return trial.All(most) }),
		keyWith(t, func(_, _, most int) api.Poly { return trial.Alone(255, most) }),
		keyWith(t, bounded),
		keyWith(t, far),
	}
}

// P10.1 (G5): ordinary seeds, messages, contexts and coins, against a second telling.
func TestSign(t *testing.T) {
	for which, seed := range trial.Seeds(32, 3) {
		_, sk := keysOf(t, seed)
		for n := range 4 {
			message, context := trial.Ordinary(300*n, which), trial.Ordinary(85*n, which)
			coins := trial.Seeds(32, 2)[n]
			got := signed(t, sk, message, context, coins)
			trial.WantBytes(t, "the signature", got, plainSign(sk, message, context, coins))
		}
	}
}

// P10.1 (G5, G6), P10.2: all are those of the published standard, as the language's own ML-DSA has it.
func TestPublishedSignatures(t *testing.T) {
	for which, seed := range trial.Seeds(32, 20) {
		pk, sk := keysOf(t, seed)
		theirs := theirKey(t, seed)
		for n := range 5 {
			message, context := trial.Ordinary(60*n, which), trial.Ordinary(17*n, which+n)
			got := signed(t, sk, message, context, noCoins())
			trial.WantBytes(t, "the signature", got, theirSigned(t, theirs, message, context))
			wantVerified(t, "their signature", pk, message, context, got, true)
			other := signed(t, sk, message, context, seed)
			if !theirVerified(t, pk, message, context, other) {
				t.Fatal("with coins: they do not verify it")
			}
		}
	}
}

// P10.2: messages and contexts of none, one and many bytes, at the edges of what a sum takes at a time.
func TestThereAndBack(t *testing.T) {
	pk, sk := ordinary(t)
	theirs := theirKey(t, trial.Ordinary(32, 100))
	lengths := []int{0, 1, 2, 68, 69, 70, 71, 134, 135, 136, 137, 255, 256, 1000, 65536}
	for _, n := range lengths {
		for _, m := range []int{0, 1, 2, 32, 254, 255} {
			message, context := trial.Ordinary(n, 1), trial.Ordinary(m, 2)
			s := signed(t, sk, message, context, noCoins())
			trial.WantBytes(t, fmt.Sprint(n, " and ", m, " bytes"), s, theirSigned(t, theirs, message, context))
			wantVerified(t, fmt.Sprint(n, " and ", m, " bytes"), pk, message, context, s, true)
			if len(s) != 3309 {
				t.Fatalf("a signature of %d bytes", len(s))
			}
		}
	}
}

// P10.1 (G5): nil is a message, and a context, of no bytes.
func TestNil(t *testing.T) {
	pk, sk := ordinary(t)
	s := signed(t, sk, nil, nil, noCoins())
	trial.WantBytes(t, "of nil", s, signed(t, sk, []byte{}, []byte{}, noCoins()))
	wantVerified(t, "of nil", pk, nil, nil, s, true)
	wantVerified(t, "of nothing", pk, []byte{}, []byte{}, s, true)
}

// P10.1 (G5): MaxHash bytes are signed, one more is ErrTooMany.
func TestLongMessages(t *testing.T) {
	pk, sk := ordinary(t)
	theirs := theirKey(t, trial.Ordinary(32, 100))
	long := bytes.Repeat(trial.Ordinary(65536, 3), 17)
	if api.MaxHash != 1<<20 {
		t.Fatal(api.MaxHash)
	}
	for _, n := range []int{1<<20 - 1, 1 << 20} {
		s := signed(t, sk, long[:n], nil, noCoins())
		trial.WantBytes(t, "a long message", s, theirSigned(t, theirs, long[:n], nil))
		wantVerified(t, "a long message", pk, long[:n], nil, s, true)
	}
	for _, n := range []int{1<<20 + 1, 1<<20 + 65536} {
		s, err := mldsa.Sign(sk, long[:n], nil, noCoins())
		trial.WantErr(t, "a message too long", err, api.ErrTooMany)
		trial.WantBytes(t, "a message too long", s, nil)
		wantVerified(t, "a message too long", pk, long[:n], nil, theirSigned(t, theirs, long[:n], nil), false)
	}
}

// P10.1 (G5): coins of 32 bytes alone, and contexts of up to 255.
func TestSignOfWrongLengths(t *testing.T) {
	_, sk := ordinary(t)
	wrong := func(what string, sk, message, context, coins []byte, want api.Errno) {
		t.Helper()
		s, err := mldsa.Sign(sk, message, context, coins)
		trial.WantErr(t, what, err, want)
		trial.WantBytes(t, what, s, nil)
	}
	for _, n := range append(trial.Around(32), 48, 64) {
		wrong("wrong coins", sk, nil, nil, make([]byte, n), api.ErrArg)
	}
	wrong("nil as coins", sk, nil, nil, nil, api.ErrArg)
	for _, n := range []int{256, 257, 511, 512, 65536} {
		wrong("a context too long", sk, nil, make([]byte, n), noCoins(), api.ErrArg)
	}
	for _, n := range append(trial.Around(4032), 1952, 3309, 32) {
		wrong("a wrong key", make([]byte, n), nil, nil, noCoins(), api.ErrKey)
	}
	wrong("a key with one byte more", trial.Joined(sk, []byte{0}), nil, nil, noCoins(), api.ErrKey)
	wrong("a key without its last byte", sk[:4031], nil, nil, noCoins(), api.ErrKey)
	wrong("a key without its first byte", sk[1:], nil, nil, noCoins(), api.ErrKey)
	wrong("nil as a key", nil, nil, nil, noCoins(), api.ErrKey)
}

// P2: ErrArg is named ahead of ErrTooMany, and that ahead of ErrKey.
func TestSeveralErrors(t *testing.T) {
	_, sk := ordinary(t)
	long, wide := make([]byte, 1<<20+1), make([]byte, 256)
	bad := trial.Changed(sk, 128, 255)
	for _, key := range [][]byte{sk, bad, sk[1:], nil} {
		for _, message := range [][]byte{nil, long} {
			for _, context := range [][]byte{nil, wide} {
				for _, coins := range [][]byte{noCoins(), make([]byte, 31), nil} {
					want := api.OK
					switch {
					case len(coins) != 32 || len(context) > 255:
						want = api.ErrArg
					case len(message) > 1<<20:
						want = api.ErrTooMany
					case !bytes.Equal(key, sk):
						want = api.ErrKey
					}
					s, err := mldsa.Sign(key, message, context, coins)
					trial.WantErr(t, "Sign", err, want)
					if (len(s) > 0) != (want == api.OK) {
						t.Fatalf("error %d: a signature of %d bytes", want, len(s))
					}
				}
			}
		}
	}
}

// P10.1 (G5): a number of S1, or of S2, that is none makes a key none, wherever it stands; beside them any byte may be.
func TestSignWithNumbersThatAreNone(t *testing.T) {
	_, sk := ordinary(t)
	for _, at := range []int{128, 129, 500, 767, 768, 769, 1000, 1535} {
		for four := range byte(16) {
			low, high := trial.Joined(sk), trial.Joined(sk)
			low[at], high[at] = sk[at]&0xf0|four, sk[at]&0x0f|four<<4
			for _, key := range [][]byte{low, high} {
				want := api.OK
				if four > 8 {
					want = api.ErrKey
				}
				s, err := mldsa.Sign(key, []byte("x"), nil, noCoins())
				trial.WantErr(t, fmt.Sprint(four, " at ", at), err, want)
				if (len(s) > 0) != (want == api.OK) {
					t.Fatalf("%d at %d: a signature of %d bytes", four, at, len(s))
				}
			}
		}
	}
	for _, at := range []int{0, 31, 32, 63, 64, 127, 1536, 3000, 4031} {
		signed(t, trial.Changed(sk, at, 255), []byte("x"), nil, noCoins())
	}
}

// edge is a message of which a round has something at its bound, and nothing else that would turn it down.
type edge struct {
	name           string
	message, round int
	of             func(r plainRound) int
	is             int
	made           bool
}

func edges() []edge {
	z := func(r plainRound) int { return r.z }
	low := func(r plainRound) int { return r.low }
	hints := func(r plainRound) int { return r.hints }
	return []edge{
		{"z may be that great, at once", 741, 0, z, 524091, true},
		{"z may be that great", 955, 1, z, 524091, true},
		{"z is too great", 216, 1, z, 524092, false},
		{"z is too great, again", 423, 1, z, 524092, false},
		{"a low part may be that great", 189, 1, low, 261691, true},
		{"a low part may be that great, later", 17, 5, low, 261691, true},
		{"a low part is too great", 27, 1, low, 261692, false},
		{"a low part is too great, later", 10, 2, low, 261692, false},
		{"there may be so many hints, at once", 350, 0, hints, 55, true},
		{"there may be so many hints", 874, 1, hints, 55, true},
		{"there are too many hints, at once", 4082, 0, hints, 56, false},
		{"there are too many hints", 792, 1, hints, 56, false},
	}
}

// P10.1 (G5): messages that are signed in the first round, and such as take several, with a round that is turned down for z alone, for a low part alone, or for hints alone, and with each of these as great as it may be. (No u is: of numbers up to 4096 it is 49 times that at most.)
func TestRounds(t *testing.T) {
	_, sk := ordinary(t)
	theirs := theirKey(t, trial.Ordinary(32, 100))
	for _, x := range edges() {
		message := []byte{byte(x.message), byte(x.message >> 8)}
		all := plainRounds(sk, message, nil, noCoins())
		r := all[x.round]
		reasons := 0
		for _, is := range []bool{r.z >= 524092, r.low >= 261692, r.hints > 55} {
			if is {
				reasons++
			}
		}
		if x.of(r) != x.is || r.made() != x.made || !x.made && reasons != 1 {
			t.Fatalf("%s: the message does not show it: %d, %d and %d", x.name, r.z, r.low, r.hints)
		}
		got := signed(t, sk, message, nil, noCoins())
		want, err := pack.PutSignature(all[len(all)-1].signature)
		trial.WantErr(t, x.name, err, api.OK)
		trial.WantBytes(t, x.name, got, want)
		trial.WantBytes(t, x.name, got, theirSigned(t, theirs, message, nil))
	}
}

// P10.1 (G5): a message that takes many rounds.
func TestManyRounds(t *testing.T) {
	pk, sk := ordinary(t)
	message := []byte{18124 % 256, 18124 / 256}
	all := plainRounds(sk, message, nil, noCoins())
	if len(all) < 47 {
		t.Fatalf("the message takes %d rounds", len(all))
	}
	s := signed(t, sk, message, nil, noCoins())
	trial.WantBytes(t, "the signature", s, theirSigned(t, theirKey(t, trial.Ordinary(32, 100)), message, nil))
	wantVerified(t, "the signature", pk, message, nil, s, true)
}

// P10.1 (G5): with keys that nobody made; some take so many rounds that the number behind p needs its second byte.
func TestSignWithNobodysKeys(t *testing.T) {
	most := 0
	for which, sk := range nobodysKeys(t) {
		for n := range 3 {
			message, context, coins := trial.Ordinary(10*n, which), trial.Ordinary(n, 4), trial.Ordinary(32, n)
			all := plainRounds(sk, message, context, coins)
			most = max(most, len(all))
			want, err := pack.PutSignature(all[len(all)-1].signature)
			trial.WantErr(t, "PutSignature", err, api.OK)
			trial.WantBytes(t, fmt.Sprint("with key ", which), signed(t, sk, message, context, coins), want)
		}
	}
	if most <= 256/5+1 {
		t.Errorf("no message takes more than %d rounds", most)
	}
}

// P10.2: keys of other seeds' making, whose parts belong together, with the least and the greatest numbers.
func TestSignedWithOtherPairs(t *testing.T) {
	for which, n := range []int{0, 1, 4, -4} {
		r, key := trial.Ordinary(32, 50), trial.Ordinary(32, 60+which)
		var s1 [5]api.Poly
		var s2 [6]api.Poly
		for i := range s1 {
			s1[i] = trial.All(n)
		}
		for i := range s2 {
			s2[i] = far(70+i, -max(n, -n), max(n, -n))
		}
		pk, sk := plainKeysOf(r, key, s1, s2)
		for m := range 4 {
			message := trial.Ordinary(m, which)
			s := signed(t, sk, message, nil, noCoins())
			trial.WantBytes(t, "the signature", s, plainSign(sk, message, nil, noCoins()))
			wantVerified(t, "the signature", pk, message, nil, s, true)
			wantVerified(t, "of another message", pk, trial.Joined(message, []byte{0}), nil, s, false)
		}
	}
}

// P10.1 (G5): the sum that stands in the key is what is signed for, whatever the public key's is.
func TestSignWithAnotherSum(t *testing.T) {
	pk, sk := ordinary(t)
	for _, at := range []int{64, 100, 127} {
		other := trial.Changed(sk, at, 1)
		s := signed(t, other, []byte("x"), nil, noCoins())
		trial.WantBytes(t, "the signature", s, plainSign(other, []byte("x"), nil, noCoins()))
		wantVerified(t, "with another sum", pk, []byte("x"), nil, s, false)
	}
}

// P10.4: other coins, and another K, make another signature, which is verified too; the same ones make the same.
func TestOtherCoins(t *testing.T) {
	pk, sk := ordinary(t)
	seen := map[string]bool{}
	coins := trial.Seeds(32, 4)
	for at := range 32 {
		coins = append(coins, trial.Changed(noCoins(), at, 1<<(at%8)))
	}
	for _, c := range coins {
		s := signed(t, sk, []byte("hello"), []byte("x"), c)
		wantVerified(t, "with other coins", pk, []byte("hello"), []byte("x"), s, true)
		seen[string(s)] = true
		trial.WantBytes(t, "the same again", signed(t, sk, []byte("hello"), []byte("x"), c), s)
	}
	for _, at := range []int{32, 50, 63} {
		s := signed(t, trial.Changed(sk, at, 1), []byte("hello"), []byte("x"), noCoins())
		wantVerified(t, "with another K", pk, []byte("hello"), []byte("x"), s, true)
		seen[string(s)] = true
	}
	if len(seen) != len(coins)+3 {
		t.Errorf("%d unlike signatures, want %d", len(seen), len(coins)+3)
	}
}

// P10.2: a message and a context that are the same bytes cut elsewhere have another signature, and none is the other's.
func TestCutElsewhere(t *testing.T) {
	pk, sk := ordinary(t)
	all := []byte("abcdef")
	seen := map[string]bool{}
	for n := range 7 {
		s := signed(t, sk, all[n:], all[:n], noCoins())
		seen[string(s)] = true
		for m := range 7 {
			wantVerified(t, fmt.Sprint("cut at ", n, ", and at ", m), pk, all[m:], all[:m], s, n == m)
		}
	}
	if len(seen) != 7 {
		t.Errorf("%d unlike signatures", len(seen))
	}
}

// The chapter's examples.
func TestExamples(t *testing.T) {
	for _, key := range [][]byte{nil, make([]byte, 1952), make([]byte, 4031), bytes.Repeat([]byte{255}, 4032)} {
		_, err := mldsa.Sign(key, []byte("hello"), nil, noCoins())
		trial.WantErr(t, "Sign(no key, ..)", err, api.ErrKey)
	}
	_, sk := ordinary(t)
	s := signed(t, sk, []byte("hello"), nil, noCoins())
	for _, key := range [][]byte{nil, sk, make([]byte, 1951)} {
		wantVerified(t, "Verify(no key, ..)", key, []byte("hello"), nil, s, false)
	}
}
