package mlkem_test

import (
	"bytes"
	"crypto/mlkem/mlkemtest"
	"testing"

	theirs "crypto/mlkem"

	"sodality/api"
	"sodality/mlkem"
	"sodality/trial"
)

func keysOf(t *testing.T, d, z []byte) (ek, dk []byte) {
	t.Helper()
	ek, dk, err := mlkem.Keys(d, z)
	trial.WantErr(t, "Keys", err, api.OK)
	return ek, dk
}

func closed(t *testing.T, ek, m []byte) (secret, c []byte) {
	t.Helper()
	secret, c, err := mlkem.Close(ek, m)
	trial.WantErr(t, "Close", err, api.OK)
	return secret, c
}

func opened(t *testing.T, dk, c []byte) []byte {
	t.Helper()
	secret, err := mlkem.Open(dk, c)
	trial.WantErr(t, "Open", err, api.OK)
	return secret
}

// ordinary are keys of seeds that are unlike.
func ordinary(t *testing.T) (ek, dk []byte) {
	t.Helper()
	return keysOf(t, trial.Ordinary(32, 61), trial.Ordinary(32, 62))
}

// P6.1 (E1): keys of ordinary seeds, and of bytes that are all alike.
func TestKeys(t *testing.T) {
	for _, d := range trial.Seeds(32, 3) {
		for _, z := range trial.Seeds(32, 3) {
			ek, dk := keysOf(t, d, z)
			wantEk, wantDk := plainKeys(d, z)
			trial.WantBytes(t, "the key to close with", ek, wantEk)
			trial.WantBytes(t, "the key to open with", dk, wantDk)
		}
	}
}

// P6.1 (E1), P2: each seed has 32 bytes, and beside an error there is nothing.
func TestKeysOfWrongLengths(t *testing.T) {
	good := make([]byte, 32)
	try := func(what string, d, z []byte) {
		t.Helper()
		ek, dk, err := mlkem.Keys(d, z)
		trial.WantErr(t, what, err, api.ErrArg)
		trial.WantBytes(t, what, trial.Joined(ek, dk), nil)
	}
	for _, n := range trial.Around(32) {
		bad := make([]byte, n)
		try("a wrong d", bad, good)
		try("a wrong z", good, bad)
		try("both wrong", bad, bad)
	}
	try("d and z that have 64 together", good[:31], make([]byte, 33))
	try("nil as d", nil, good)
	try("nil as z", good, nil)
	try("nil as both", nil, nil)
}

// P6.1 (E3): of keys that were made, and of such as nobody made, with ordinary messages and such as are all alike.
func TestClose(t *testing.T) {
	ek, _ := ordinary(t)
	for _, key := range append(nobodysKeys(), ek) {
		for _, m := range trial.Seeds(32, 3) {
			secret, c := closed(t, key, m)
			wantSecret, wantC := plainClose(key, m)
			trial.WantBytes(t, "the secret", secret, wantSecret)
			trial.WantBytes(t, "the text", c, wantC)
		}
	}
}

// P6.1 (E3), P2: the message is named ahead of the key.
func TestCloseOfWrongLengths(t *testing.T) {
	ek, dk := ordinary(t)
	good := make([]byte, 32)
	try := func(what string, ek, m []byte, want api.Errno) {
		t.Helper()
		secret, c, err := mlkem.Close(ek, m)
		trial.WantErr(t, what, err, want)
		trial.WantBytes(t, what, trial.Joined(secret, c), nil)
	}
	for _, n := range trial.Around(32) {
		try("a wrong message", ek, make([]byte, n), api.ErrArg)
		try("a wrong message and key", ek[1:], make([]byte, n), api.ErrArg)
		try("a wrong message and a number too great", plainPut(ek, 0, 3329), make([]byte, n), api.ErrArg)
	}
	for _, n := range append(trial.Around(1184), 1152, 2400) {
		try("a wrong key", make([]byte, n), good, api.ErrKey)
	}
	try("a key with one byte more", trial.Joined(ek, []byte{0}), good, api.ErrKey)
	try("a key without its last byte", ek[:1183], good, api.ErrKey)
	try("a key to open with", dk, good, api.ErrKey)
	try("nil as a key", nil, good, api.ErrKey)
	try("nil as a message", ek, nil, api.ErrArg)
	try("nil as both", nil, nil, api.ErrArg)
}

// P6.1 (E3): a key is right, or nothing is closed with it.
func TestCloseOfWrongKeys(t *testing.T) {
	ek, _ := ordinary(t)
	for _, at := range places() {
		closed(t, plainPut(ek, at, 3328), make([]byte, 32))
		for _, n := range []int{3329, 4095} {
			secret, c, err := mlkem.Close(plainPut(ek, at, n), make([]byte, 32))
			trial.WantErr(t, "a number too great", err, api.ErrKey)
			trial.WantBytes(t, "a number too great", trial.Joined(secret, c), nil)
		}
	}
}

// P6.1 (E4): what was closed is opened, with its own key.
func TestThereAndBack(t *testing.T) {
	z := bytes.Repeat([]byte{9}, 32)
	for _, d := range trial.Seeds(32, 8) {
		ek, dk := keysOf(t, d, z)
		for _, m := range trial.Seeds(32, 3) {
			secret, c := closed(t, ek, m)
			trial.WantBytes(t, "the secret", opened(t, dk, c), secret)
		}
	}
}

// P6.1 (E3, E4): another message, and another key, have another secret and text.
func TestUnlike(t *testing.T) {
	ek, dk := ordinary(t)
	ek2, dk2 := keysOf(t, make([]byte, 32), make([]byte, 32))
	secret, c := closed(t, ek, make([]byte, 32))
	for _, m := range trial.Seeds(32, 2)[1:] {
		s, d := closed(t, ek, m)
		if bytes.Equal(s, secret) || bytes.Equal(d, c) {
			t.Error("of another message: alike")
		}
	}
	s, d := closed(t, ek2, make([]byte, 32))
	if bytes.Equal(s, secret) || bytes.Equal(d, c) {
		t.Error("of another key: alike")
	}
	if bytes.Equal(opened(t, dk2, c), secret) || bytes.Equal(opened(t, dk, d), s) {
		t.Error("opened with another key: alike")
	}
}

// P6.1 (E4), P2: the key is named ahead of the text.
func TestOpenOfWrongLengths(t *testing.T) {
	ek, dk := ordinary(t)
	_, c := closed(t, ek, make([]byte, 32))
	try := func(what string, dk, c []byte, want api.Errno) {
		t.Helper()
		secret, err := mlkem.Open(dk, c)
		trial.WantErr(t, what, err, want)
		trial.WantBytes(t, what, secret, nil)
	}
	for _, n := range trial.Around(2400) {
		try("a wrong key", make([]byte, n), c, api.ErrKey)
		try("a wrong key and text", make([]byte, n), c[1:], api.ErrKey)
	}
	for _, n := range append(trial.Around(1088), 960, 128) {
		try("a wrong text", dk, make([]byte, n), api.ErrBytes)
	}
	try("a key with one byte more", trial.Joined(dk, []byte{0}), c, api.ErrKey)
	try("a key without its last byte", dk[:2399], c, api.ErrKey)
	try("a text with one byte more", dk, trial.Joined(c, []byte{0}), api.ErrBytes)
	try("a text without its last byte", dk, c[:1087], api.ErrBytes)
	try("a wrong sum and text", trial.Changed(dk, 2336, 1), c[1:], api.ErrKey)
	try("a key to close with", ek, c, api.ErrKey)
	try("nil as a key", nil, c, api.ErrKey)
	try("nil as a text", dk, nil, api.ErrBytes)
	try("nil as both", nil, nil, api.ErrKey)
}

// P6.1 (E4): a key is right, or nothing is opened with it.
func TestOpenWithWrongKeys(t *testing.T) {
	ek, dk := ordinary(t)
	_, c := closed(t, ek, make([]byte, 32))
	for _, at := range []int{1152, 1153, 1536, 1920, 2303, 2304, 2335, 2336, 2350, 2367} {
		secret, err := mlkem.Open(trial.Changed(dk, at, 1), c)
		trial.WantErr(t, "a byte changed", err, api.ErrKey)
		trial.WantBytes(t, "a byte changed", secret, nil)
	}
	for _, at := range places() {
		bad := plainKeyToOpen(dk[:1152], plainPut(ek, at, 3329), dk[2368:])
		secret, err := mlkem.Open(bad, c)
		trial.WantErr(t, "a number too great", err, api.ErrKey)
		trial.WantBytes(t, "a number too great", secret, nil)
	}
}

// P6.1 (E4): the secret key ahead may be any; with another one a text says something else.
func TestOpenWithAnotherSecretKey(t *testing.T) {
	ek, dk := ordinary(t)
	_, c := closed(t, ek, make([]byte, 32))
	for _, own := range append(trial.Seeds(1152, 2), trial.Changed(dk[:1152], 0, 255), trial.Changed(dk[:1152], 1151, 255)) {
		key := plainKeyToOpen(own, ek, dk[2368:])
		trial.WantBytes(t, "opened with another secret key", opened(t, key, c), plainTurnedDown(dk, c))
		for _, text := range trial.Seeds(1088, 1) {
			trial.WantBytes(t, "a text that nobody closed", opened(t, key, text), plainOpen(key, text))
		}
	}
}

// P6.1 (E4): what is decrypted is encrypted for the key to close with that stands in the key.
func TestOpenWithAnotherKeyToClose(t *testing.T) {
	ek, dk := ordinary(t)
	_, c := closed(t, ek, make([]byte, 32))
	for _, other := range append(nobodysKeys(), trial.Changed(ek, 1183, 1)) {
		key := plainKeyToOpen(dk[:1152], other, dk[2368:])
		trial.WantBytes(t, "opened with another key", opened(t, key, c), plainTurnedDown(dk, c))
	}
}

// P6.1 (E4): z has no part in the secret of a text that somebody closed.
func TestOpenWithAnotherZ(t *testing.T) {
	ek, dk := ordinary(t)
	secret, c := closed(t, ek, make([]byte, 32))
	bad := trial.Changed(c, 700, 4)
	for _, at := range []int{2368, 2380, 2399} {
		key := trial.Changed(dk, at, 1)
		trial.WantBytes(t, "with another z", opened(t, key, c), secret)
		trial.WantBytes(t, "with another z, a text that nobody closed", opened(t, key, bad), plainTurnedDown(key, bad))
	}
}

// P6.3: texts of which one bit is changed, at each byte.
func TestOpenOfOneBitChanged(t *testing.T) {
	ek, dk := ordinary(t)
	_, c := closed(t, ek, bytes.Repeat([]byte{7}, 32))
	for at := range c {
		bad := trial.Changed(c, at, 1<<(at%8))
		trial.WantBytes(t, "one bit changed", opened(t, dk, bad), plainTurnedDown(dk, bad))
	}
	for bit := range 8 {
		for _, at := range []int{0, 959, 960, 1087} {
			bad := trial.Changed(c, at, 1<<bit)
			trial.WantBytes(t, "one bit changed", opened(t, dk, bad), plainTurnedDown(dk, bad))
		}
	}
}

// P6.3: texts that nobody closed, among them some that say what the closed one says, with two changes that hide each other in a sum.
func TestOpenOfWhatNobodyClosed(t *testing.T) {
	ek, dk := ordinary(t)
	_, c := closed(t, ek, make([]byte, 32))
	texts := append(trial.Seeds(1088, 10), trial.Changed(trial.Changed(c, 3, 128), 8, 128), trial.Changed(trial.Changed(c, 0, 1), 1087, 1))
	for _, bad := range texts {
		got := opened(t, dk, bad)
		trial.WantBytes(t, "what nobody closed", got, plainTurnedDown(dk, bad))
		closed(t, ek, bad[:32])
		opened(t, dk, c)
		trial.WantBytes(t, "what nobody closed, asked anew", opened(t, dk, bad), got)
	}
}

// P6.3: two texts, and two keys that are unlike in z alone, have unlike answers.
func TestTurnedDownAreUnlike(t *testing.T) {
	_, dk := ordinary(t)
	seen := map[string]bool{}
	for _, bad := range trial.Seeds(1088, 10) {
		for _, key := range [][]byte{dk, trial.Changed(dk, 2368, 1), trial.Changed(dk, 2399, 128)} {
			seen[string(opened(t, key, bad))] = true
		}
	}
	if len(seen) != 36 {
		t.Errorf("%d unlike answers, want 36", len(seen))
	}
}

// P6.4.
func TestLengths(t *testing.T) {
	for _, d := range trial.Seeds(32, 4) {
		ek, dk := keysOf(t, d, d)
		secret, c := closed(t, ek, d)
		again, down := opened(t, dk, c), opened(t, dk, trial.Changed(c, 0, 1))
		got := [6]int{len(ek), len(dk), len(secret), len(c), len(again), len(down)}
		if want := [6]int{1184, 2400, 32, 1088, 32, 32}; got != want {
			t.Errorf("lengths %v, want %v", got, want)
		}
	}
}

// The chapter's examples.
func TestExamples(t *testing.T) {
	_, _, err := mlkem.Close(make([]byte, 1183), make([]byte, 32))
	trial.WantErr(t, "Close(1183 bytes, 32 bytes)", err, api.ErrKey)
	for _, n := range []int{0, 1, 1087, 1088, 1089} {
		_, err = mlkem.Open(make([]byte, 2400), make([]byte, n))
		trial.WantErr(t, "Open(2400 bytes 0, ..)", err, api.ErrKey)
	}
}

// P6.1 to P6.3: all are those of the published standard, as the language's own ML-KEM has it.
func TestPublishedStandard(t *testing.T) {
	z := bytes.Repeat([]byte{11}, 32)
	for _, d := range trial.Seeds(32, 30) {
		key, err := theirs.NewDecapsulationKey768(trial.Joined(d, z))
		if err != nil {
			t.Fatal(err)
		}
		ek, dk := keysOf(t, d, z)
		trial.WantBytes(t, "the key to close with", ek, key.EncapsulationKey().Bytes())
		m := trial.Joined(d[16:], d[:16])
		wantSecret, wantC, err := mlkemtest.Encapsulate768(key.EncapsulationKey(), m)
		if err != nil {
			t.Fatal(err)
		}
		secret, c := closed(t, ek, m)
		trial.WantBytes(t, "the secret", secret, wantSecret)
		trial.WantBytes(t, "the text", c, wantC)
		for _, text := range append(trial.Seeds(1088, 3), c, trial.Changed(c, 17, 2), trial.Changed(c, 1087, 64)) {
			want, err := key.Decapsulate(text)
			if err != nil {
				t.Fatal(err)
			}
			trial.WantBytes(t, "the secret of a text", opened(t, dk, text), want)
		}
	}
}
