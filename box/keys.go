package box

import (
	"slices"

	"sodality/hkdf"
	"sodality/keccak"
	"sodality/wire"
)

const (
	keyBytes = 32
	tagBytes = 32
)

// tag is that of what stands ahead, and of bytes.
type tag [tagBytes]byte

// keys are a key's own: one makes its stream, the other its tags.
type keys struct{ stream, tag []byte }

func keysOf(key []byte) keys {
	return keys{
		stream: hkdf.Label(key, "stream", nil, keyBytes),
		tag:    hkdf.Label(key, "tag", nil, keyBytes),
	}
}

// crossed is b unlike the stream. It closes and opens: what is crossed twice is as it was.
func (k keys) crossed(b []byte) []byte {
	out := keccak.Shake256(k.stream, len(b))
	for i, v := range b {
		out[i] ^= v
	}
	return out
}

// tagOf takes what stands ahead only where it is at most MaxSeal bytes: wire refuses no such text.
func (k keys) tagOf(ahead, hidden []byte) tag {
	text, _ := wire.Text(ahead)
	return k.mac(text, hidden)
}

// isTag compares the tags themselves, but only where their own tags are alike: how long it takes to compare arrays tells where they part, and who forges a tag must not learn how much of it is right.
func (k keys) isTag(t tag, ahead, hidden []byte) bool {
	right := k.tagOf(ahead, hidden)
	return k.mac(t[:]) == k.mac(right[:]) && t == right
}

func (k keys) mac(parts ...[]byte) tag {
	return tag(hkdf.Mac(k.tag, slices.Concat(parts...)))
}
