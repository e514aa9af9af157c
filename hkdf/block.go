package hkdf

import "sodality/sha2"

const (
	blockBytes = 64
	sumBytes   = 32
	innerMark  = 54
	outerMark  = 92
)

// block is a key as long as sha2's own blocks.
type block [blockBytes]byte

func blockOf(key []byte) block {
	if len(key) > blockBytes {
		key = sha2.Sum(key)
	}
	var b block
	copy(b[:], key)
	return b
}

// tag takes a text in parts, so that a long one need not be copied to stand behind another.
func (b block) tag(parts ...[]byte) []byte {
	return b.sum(outerMark, b.sum(innerMark, parts...))
}

// sum is that of the block, each byte unlike a mark, and of the parts.
func (b block) sum(mark byte, parts ...[]byte) []byte {
	for i := range b {
		b[i] ^= mark
	}
	h := sha2.New()
	h.Write(b[:])
	for _, part := range parts {
		h.Write(part)
	}
	return h.Sum()
}
