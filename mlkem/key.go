package mlkem

import (
	"bytes"

	"sodality/api"
	"sodality/keccak"
	"sodality/kpke"
)

const (
	wholeBits = 12
	partBytes = api.KemOwn / api.KemK
	sumBytes  = 32
)

// Where the parts of a key to open with end.
const (
	ownEnd  = api.KemOwn
	ekEnd   = ownEnd + api.KemEk
	sumEnd  = ekEnd + sumBytes
	turnEnd = sumEnd + api.Seed
)

// sum is that of a key to close with.
type sum [sumBytes]byte

func sumOf(ek []byte) sum { return sum(keccak.Sum256(ek)) }

// keyToOpen is one's parts.
type keyToOpen struct {
	own, ek []byte
	sum     sum
	z       []byte
}

// cut takes a key that has its length. No part has room behind it, so that what is put behind one is not written over the next.
func cut(dk []byte) keyToOpen {
	return keyToOpen{
		own: dk[:ownEnd:ownEnd],
		ek:  dk[ownEnd:ekEnd:ekEnd],
		sum: sum(dk[ekEnd:sumEnd:sumEnd]),
		z:   dk[sumEnd:turnEnd:turnEnd],
	}
}

func (k keyToOpen) isRight() bool { return RightClose(k.ek) && k.sum == sumOf(k.ek) }

// turnedDown is the secret of a text that nobody closed. It is like any other to whoever doesn't know z.
func (k keyToOpen) turnedDown(c []byte) []byte {
	return keccak.Shake256(append(k.z, c...), secretBytes)
}

// isEncoded takes a key to close with that has its length: is each of its numbers below the modulus?
func isEncoded(ek []byte) bool {
	for i := range api.KemK {
		from, to := i*partBytes, (i+1)*partBytes
		part := ek[from:to:to]
		p, err := kpke.Decode(wholeBits, part)
		if err != api.OK || !bytes.Equal(kpke.Encode(wholeBits, p), part) {
			return false
		}
	}
	return true
}
