package kpke_test

import (
	"bytes"
	"crypto/mlkem"
	"crypto/mlkem/mlkemtest"
	"crypto/sha3"
	"math/rand"
	"testing"

	"sodality/api"
	"sodality/kpke"
	"sodality/trial"
)

func keysOf(t *testing.T, seed []byte) (ek, dk []byte) {
	t.Helper()
	ek, dk, err := kpke.Keys(seed)
	trial.WantErr(t, "Keys", err, api.OK)
	return ek, dk
}

func textOf(t *testing.T, ek, m, coins []byte) []byte {
	t.Helper()
	c, err := kpke.Encrypt(ek, m, coins)
	trial.WantErr(t, "Encrypt", err, api.OK)
	return c
}

func messageOf(t *testing.T, dk, c []byte) []byte {
	t.Helper()
	m, err := kpke.Decrypt(dk, c)
	trial.WantErr(t, "Decrypt", err, api.OK)
	return m
}

// P5.1 (N5): keys of ordinary seeds, and of bytes that are all alike, by another way.
func TestKeys(t *testing.T) {
	for _, seed := range trial.Seeds(32, 8) {
		ek, dk := keysOf(t, seed)
		wantEk, wantDk := plainKeys(seed)
		trial.WantBytes(t, "the public key", ek, wantEk)
		trial.WantBytes(t, "the secret key", dk, wantDk)
	}
}

func TestKeysOfWrongLengths(t *testing.T) {
	for _, n := range trial.Around(32) {
		ek, dk, err := kpke.Keys(make([]byte, n))
		trial.WantErr(t, "Keys", err, api.ErrArg)
		trial.WantBytes(t, "beside an error", trial.Joined(ek, dk), nil)
	}
	_, _, err := kpke.Keys(nil)
	trial.WantErr(t, "Keys(nil)", err, api.ErrArg)
}

// P5.1 (N6): texts of ordinary keys, messages and coins, and of such as are all alike; keys too that nobody made, whose numbers are above q.
func TestEncrypt(t *testing.T) {
	r := rand.New(rand.NewSource(53))
	ek, _ := keysOf(t, random(r, 32))
	keys := append(trial.Seeds(1184, 4), ek)
	for i, m := range trial.Seeds(32, 3) {
		for j, coins := range [][]byte{make([]byte, 32), bytes.Repeat([]byte{255}, 32), random(r, 32)} {
			key := keys[(i+j)%len(keys)]
			trial.WantBytes(t, "Encrypt", textOf(t, key, m, coins), plainEncrypt(key, m, coins))
		}
	}
	for _, key := range keys {
		m, coins := random(r, 32), random(r, 32)
		trial.WantBytes(t, "Encrypt", textOf(t, key, m, coins), plainEncrypt(key, m, coins))
	}
}

// P5.1 (N6), P2: message and coins are named ahead of the key.
func TestEncryptOfWrongLengths(t *testing.T) {
	ek, _ := keysOf(t, make([]byte, 32))
	good := make([]byte, 32)
	try := func(what string, ek, m, coins []byte, want api.Errno) {
		t.Helper()
		c, err := kpke.Encrypt(ek, m, coins)
		trial.WantErr(t, what, err, want)
		trial.WantBytes(t, what, c, nil)
	}
	for _, n := range trial.Around(32) {
		bad := make([]byte, n)
		try("a wrong message", ek, bad, good, api.ErrArg)
		try("wrong coins", ek, good, bad, api.ErrArg)
		try("both wrong", ek, bad, bad, api.ErrArg)
		try("a wrong message and key", nil, bad, good, api.ErrArg)
		try("wrong coins and key", ek[:1183], good, bad, api.ErrArg)
	}
	for _, n := range append(trial.Around(1184), 1152, 2400) {
		try("a wrong key", make([]byte, n), good, good, api.ErrKey)
	}
	try("nil as a key", nil, good, good, api.ErrKey)
	try("nil as a message", ek, nil, good, api.ErrArg)
	try("nil as coins", ek, good, nil, api.ErrArg)
	try("nil as all", nil, nil, nil, api.ErrArg)
}

// P5.1 (N7): of keys and texts that nobody made too.
func TestDecrypt(t *testing.T) {
	r := rand.New(rand.NewSource(54))
	_, dk := keysOf(t, random(r, 32))
	for _, key := range append(trial.Seeds(1152, 4), dk) {
		for _, c := range trial.Seeds(1088, 4) {
			trial.WantBytes(t, "Decrypt", messageOf(t, key, c), plainDecrypt(key, c))
		}
	}
}

// P5.1 (N7), P2: the key is named ahead of the text.
func TestDecryptOfWrongLengths(t *testing.T) {
	ek, dk := keysOf(t, make([]byte, 32))
	c := textOf(t, ek, make([]byte, 32), make([]byte, 32))
	try := func(what string, dk, c []byte, want api.Errno) {
		t.Helper()
		m, err := kpke.Decrypt(dk, c)
		trial.WantErr(t, what, err, want)
		trial.WantBytes(t, what, m, nil)
	}
	for _, n := range append(trial.Around(1152), 1184, 2400) {
		try("a wrong key", make([]byte, n), c, api.ErrKey)
		try("a wrong key and text", make([]byte, n), c[1:], api.ErrKey)
	}
	for _, n := range append(trial.Around(1088), 960, 128) {
		try("a wrong text", dk, make([]byte, n), api.ErrBytes)
	}
	try("nil as a key", nil, c, api.ErrKey)
	try("nil as a text", dk, nil, api.ErrBytes)
	try("nil as both", nil, nil, api.ErrKey)
}

// P5.1 (N6, N7): what was encrypted is decrypted, by its own key.
func TestThereAndBack(t *testing.T) {
	r := rand.New(rand.NewSource(55))
	for _, seed := range trial.Seeds(32, 20) {
		ek, dk := keysOf(t, seed)
		for _, m := range trial.Seeds(32, 3) {
			for _, coins := range [][]byte{make([]byte, 32), bytes.Repeat([]byte{255}, 32), random(r, 32)} {
				trial.WantBytes(t, "the message", messageOf(t, dk, textOf(t, ek, m, coins)), m)
			}
		}
	}
}

// Another key, or other coins, are another text; a text of another key says nothing of the message.
func TestOthers(t *testing.T) {
	m, coins := trial.Seeds(32, 1)[2], make([]byte, 32)
	ek, dk := keysOf(t, make([]byte, 32))
	other, wrong := keysOf(t, bytes.Repeat([]byte{1}, 32))
	c := textOf(t, ek, m, coins)
	if bytes.Equal(c, textOf(t, other, m, coins)) || bytes.Equal(c, textOf(t, ek, m, m)) {
		t.Error("texts are alike")
	}
	if bytes.Equal(dk, wrong) || bytes.Equal(messageOf(t, wrong, c), m) {
		t.Error("keys are alike")
	}
}

// P5.1 (N5 to N7): all are those of the published standard, as the language's own ML-KEM has it.
func TestPublishedStandard(t *testing.T) {
	for _, seed := range trial.Seeds(32, 30) {
		theirs, err := mlkem.NewDecapsulationKey768(trial.Joined(seed, make([]byte, 32)))
		if err != nil {
			t.Fatal(err)
		}
		ek, dk := keysOf(t, seed)
		trial.WantBytes(t, "the public key", ek, theirs.EncapsulationKey().Bytes())
		m := trial.Joined(seed[16:], seed[:16])
		shared, text, err := mlkemtest.Encapsulate768(theirs.EncapsulationKey(), m)
		if err != nil {
			t.Fatal(err)
		}
		sum := sha3.Sum256(ek)
		both := sha3.Sum512(trial.Joined(m, sum[:]))
		trial.WantBytes(t, "the secret", shared, both[:32])
		trial.WantBytes(t, "the text", textOf(t, ek, m, both[32:]), text)
		trial.WantBytes(t, "the message", messageOf(t, dk, text), m)
	}
}
