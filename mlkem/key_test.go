package mlkem_test

import (
	"math/rand"
	"testing"

	theirs "crypto/mlkem"

	"sodality/mlkem"
	"sodality/trial"
)

// places are those of numbers at the ends and in the midst of each of a key's three parts.
func places() []int {
	return []int{0, 1, 100, 255, 256, 257, 400, 511, 512, 513, 700, 767}
}

// nobodysKeys are right, though nobody made them.
func nobodysKeys() [][]byte {
	r := rand.New(rand.NewSource(62))
	zero := make([]byte, 1184)
	most, some := trial.Joined(zero[:1152], trial.Seeds(32, 0)[1]), trial.Joined(zero[:1152], trial.Ordinary(32, 63))
	for i := range 768 {
		most, some = plainPut(most, i, 3328), plainPut(some, i, r.Intn(3329))
	}
	return [][]byte{zero, most, some}
}

func wantRightClose(t *testing.T, what string, ek []byte, want bool) {
	t.Helper()
	if mlkem.RightClose(ek) != want {
		t.Fatalf("%s: right to close with is %v, want %v", what, !want, want)
	}
}

func wantRightOpen(t *testing.T, what string, dk []byte, want bool) {
	t.Helper()
	if mlkem.RightOpen(dk) != want {
		t.Fatalf("%s: right to open with is %v, want %v", what, !want, want)
	}
}

// P6.2: of ordinary seeds, and of bytes that are all alike.
func TestMadeKeysAreRight(t *testing.T) {
	for _, d := range trial.Seeds(32, 20) {
		for _, z := range trial.Seeds(32, 1) {
			ek, dk := keysOf(t, d, z)
			wantRightClose(t, "a key that was made", ek, true)
			wantRightOpen(t, "a key that was made", dk, true)
		}
	}
}

// P6.1 (E2): in each part a number may be up to 3328, whatever stands beside it.
func TestRightCloseBounds(t *testing.T) {
	made, _ := ordinary(t)
	for _, ek := range append(nobodysKeys(), made) {
		for _, at := range places() {
			for _, n := range []int{0, 1, 2047, 2048, 3327, 3328} {
				wantRightClose(t, "a number that may be", plainPut(ek, at, n), true)
			}
			for _, n := range []int{3329, 3330, 3584, 4094, 4095} {
				wantRightClose(t, "a number too great", plainPut(ek, at, n), false)
			}
		}
	}
}

// P6.1 (E2): one number at every place.
func TestRightCloseAtEveryPlace(t *testing.T) {
	ek, _ := ordinary(t)
	for at := range 768 {
		wantRightClose(t, "3328", plainPut(ek, at, 3328), true)
		wantRightClose(t, "3329", plainPut(ek, at, 3329), false)
	}
}

// P6.1 (E2): the last 32 bytes may be any.
func TestRightCloseWithAnySeed(t *testing.T) {
	ek, _ := ordinary(t)
	for _, seed := range trial.Seeds(32, 5) {
		wantRightClose(t, "another seed", trial.Joined(ek[:1152], seed), true)
	}
	for at := 1152; at < 1184; at++ {
		wantRightClose(t, "a byte of the seed changed", trial.Changed(ek, at, 255), true)
	}
}

// P6.1 (E2): bytes as they come, held against a second telling and the language's own.
func TestRightCloseOfBytes(t *testing.T) {
	made, _ := ordinary(t)
	for _, ek := range append(trial.Seeds(1184, 20), made) {
		wantRightClose(t, "bytes", ek, plainRightClose(ek))
		for _, at := range []int{0, 1, 2, 383, 384, 767, 768, 1151} {
			for _, bits := range []byte{1, 15, 16, 240, 255} {
				b := trial.Changed(ek, at, bits)
				_, err := theirs.NewEncapsulationKey768(b)
				wantRightClose(t, "a byte changed", b, err == nil)
			}
		}
	}
}

func TestRightCloseOfWrongLengths(t *testing.T) {
	made, dk := ordinary(t)
	for _, n := range append(trial.Around(1184), 1152, 2400) {
		wantRightClose(t, "a wrong length", make([]byte, n), false)
	}
	wantRightClose(t, "one byte more", trial.Joined(made, []byte{0}), false)
	wantRightClose(t, "one byte less", made[:1183], false)
	wantRightClose(t, "a key to open with", dk, false)
	wantRightClose(t, "nil", nil, false)
}

// P6.1 (E2): keys that nobody made may be opened with, if only their sums are right.
func TestRightOpenOfParts(t *testing.T) {
	made, _ := ordinary(t)
	for _, ek := range append(nobodysKeys(), made) {
		for _, own := range trial.Seeds(1152, 1) {
			for _, z := range trial.Seeds(32, 1) {
				wantRightOpen(t, "a key of parts", plainKeyToOpen(own, ek, z), true)
			}
		}
	}
}

// P6.1 (E2): the secret key and z may be any; the key to close with and the sum may not.
func TestRightOpenWithOneByteChanged(t *testing.T) {
	_, dk := ordinary(t)
	for at := range dk {
		free := at < 1152 || at >= 2368
		wantRightOpen(t, "one bit changed", trial.Changed(dk, at, 1<<(at%8)), free)
		wantRightOpen(t, "one byte changed", trial.Changed(dk, at, 255), free)
	}
}

// P6.1 (E2): the sum of a key that is not right makes it no better, nor does the sum of another one.
func TestRightOpenBounds(t *testing.T) {
	ek, dk := ordinary(t)
	own, z := dk[:1152], dk[2368:]
	for _, at := range places() {
		wantRightOpen(t, "3328, with its sum", plainKeyToOpen(own, plainPut(ek, at, 3328), z), true)
		for _, n := range []int{3329, 4095} {
			wantRightOpen(t, "a number too great, with its sum", plainKeyToOpen(own, plainPut(ek, at, n), z), false)
		}
	}
	for _, other := range nobodysKeys() {
		wantRightOpen(t, "another key's sum", trial.Joined(own, ek, plainSum(other), z), false)
	}
	wantRightOpen(t, "the sum of all ahead", trial.Joined(own, ek, plainSum(own, ek), z), false)
	wantRightOpen(t, "the sum ahead of the key", trial.Joined(own, plainSum(ek), ek, z), false)
}

func TestRightOpenOfWrongLengths(t *testing.T) {
	ek, dk := ordinary(t)
	for _, n := range append(trial.Around(2400), 1184, 1152) {
		wantRightOpen(t, "a wrong length", make([]byte, n), false)
	}
	wantRightOpen(t, "2400 bytes 0", make([]byte, 2400), false)
	wantRightOpen(t, "2400 bytes 255", trial.Seeds(2400, 0)[1], false)
	wantRightOpen(t, "one byte more", trial.Joined(dk, []byte{0}), false)
	wantRightOpen(t, "one byte less", dk[:2399], false)
	wantRightOpen(t, "none of the first", dk[1:], false)
	wantRightOpen(t, "without z", dk[:2368], false)
	wantRightOpen(t, "a key to close with", ek, false)
	wantRightOpen(t, "nil", nil, false)
}
