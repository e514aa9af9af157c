package sched

import (
	"sodality/hkdf"
	"sodality/sha2"
	"sodality/wire"
)

const (
	keyBytes  = 32
	mostBytes = 16000 // as much as hkdf takes as a context
)

// key is a key's name, and the place that it is put in.
type key struct {
	name  string
	place *[]byte
}

// put makes the keys that come of a secret, each by its name.
func put(secret []byte, context []byte, keys ...key) {
	for _, k := range keys {
		*k.place = hkdf.Label(secret, k.name, context, keyBytes)
	}
}

// short is what a text counts as.
func short(b []byte) []byte {
	if len(b) > mostBytes {
		return sha2.Sum(b)
	}
	return b
}

// sumOf is that of texts, with their lengths ahead, so that no byte can go from one to the other.
func sumOf(texts ...[]byte) []byte {
	h := sha2.New()
	for _, s := range texts {
		b, _ := wire.Text(short(s)) // what is short is never too long for it
		h.Write(b)
	}
	return h.Sum()
}
