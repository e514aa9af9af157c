package mlkem_test

import (
	"bytes"
	"crypto/sha3"

	"sodality/kpke"
	"sodality/trial"
)

// What stands here is a second telling of the chapter, in other words, with the language's own SHA-3.

// plainNumbers reads a key to close with bit by bit.
func plainNumbers(ek []byte) []int {
	numbers := make([]int, 768)
	for i := range numbers {
		for k := range 12 {
			bit := 12*i + k
			numbers[i] |= int(ek[bit/8]) >> (bit % 8) % 2 << k
		}
	}
	return numbers
}

// plainPut has the number at a place be another one.
func plainPut(ek []byte, at, number int) []byte {
	out := trial.Joined(ek)
	for k := range 12 {
		bit := 12*at + k
		out[bit/8] = out[bit/8]&^(1<<(bit%8)) | byte(number>>k%2)<<(bit%8)
	}
	return out
}

func plainRightClose(ek []byte) bool {
	if len(ek) != 1184 {
		return false
	}
	for _, n := range plainNumbers(ek) {
		if n >= 3329 {
			return false
		}
	}
	return true
}

func plainSum(b ...[]byte) []byte {
	h := sha3.Sum256(trial.Joined(b...))
	return h[:]
}

// plainKeyToOpen is made of parts, with the sum that is the key's.
func plainKeyToOpen(own, ek, z []byte) []byte {
	return trial.Joined(own, ek, plainSum(ek), z)
}

func plainKeys(d, z []byte) ([]byte, []byte) {
	ek, own, _ := kpke.Keys(d)
	return ek, plainKeyToOpen(own, ek, z)
}

func plainClose(ek, m []byte) ([]byte, []byte) {
	both := sha3.Sum512(trial.Joined(m, plainSum(ek)))
	c, _ := kpke.Encrypt(ek, m, both[32:])
	return both[:32], c
}

func plainTurnedDown(dk, c []byte) []byte {
	return sha3.SumSHAKE256(trial.Joined(dk[2368:], c), 32)
}

// plainOpen closes what the text seems to say anew.
func plainOpen(dk, c []byte) []byte {
	m, _ := kpke.Decrypt(dk[:1152], c)
	secret, same := plainClose(dk[1152:2336], m)
	if bytes.Equal(same, c) {
		return secret
	}
	return plainTurnedDown(dk, c)
}
