package box_test

import (
	"bytes"
	"crypto/sha256"
	"crypto/subtle"
	"slices"
	"testing"

	"sodality/api"
	"sodality/trial"
)

// madeOfTag are 32 bytes each that are made of a tag, and are not it: tags and sums of it, and its own bytes otherwise.
func madeOfTag(key, ahead, tag []byte) [][]byte {
	own := plainLabel(key, "tag", nil)
	mac, sum := plainMac(own, tag), sha256.Sum256(tag)
	out := [][]byte{
		mac, plainMac(own, mac), plainMac(own, tag, tag), plainMac(tag, tag), plainMac(tag, nil), plainMac(key, tag),
		plainMac(plainLabel(key, "stream", nil), tag), plainMac(own, plainText(tag)), plainMac(nil, tag), sum[:],
		plainTag(key, ahead, tag), plainTag(key, nil, tag), plainTag(key, tag, nil), plainTag(key, tag, tag),
		plainTag(key, ahead, plainTag(key, ahead, tag)), plainTag(tag, ahead, tag), plainCrossed(key, tag),
		unlike(tag, mac), unlike(tag, plainTag(key, ahead, tag)), unlike(tag, bytes.Repeat([]byte{255}, 32)),
		trial.Joined(tag[1:], tag[:1]), trial.Joined(tag[16:], tag[:16]), trial.Joined(tag[:16], tag[:16]),
	}
	turned := bytes.Clone(tag)
	slices.Reverse(turned)
	return append(out, turned)
}

func unlike(a, b []byte) []byte {
	out := make([]byte, len(a))
	subtle.XORBytes(out, a, b)
	return out
}

// inPart have the first bytes of a tag, and behind them others, or the other way round; no byte of the others is the tag's.
func inPart(tag []byte) [][]byte {
	var out [][]byte
	other := unlike(tag, bytes.Repeat([]byte{255}, 32))
	for n := range tag {
		out = append(out, trial.Joined(tag[:n], other[n:]), trial.Joined(other[:n+1], tag[n+1:]))
	}
	return out
}

// P12.1 (B1), P12.3: the last 32 bytes are the tag, or it is ErrTag: with each of their bits turned.
func TestTagWithOneBitTurned(t *testing.T) {
	key := trial.Ordinary(32, 80)
	for _, ahead := range [][]byte{nil, []byte("ahead"), make([]byte, maxSeal)} {
		for _, n := range []int{0, 1, 40, maxSeal} {
			closed := wantClosed(t, key, ahead, trial.Ordinary(n, 81))
			for at := n; at < n+32; at++ {
				for bit := range 8 {
					wantNotOpened(t, "one bit of the tag turned", key, ahead, trial.Changed(closed, at, 1<<bit), api.ErrTag)
				}
			}
		}
	}
}

// P12.1 (B1), P12.3: with each of their bytes changed, to each other one.
func TestTagWithOneByteChanged(t *testing.T) {
	key, ahead := trial.Ordinary(32, 82), []byte("ahead")
	for _, n := range []int{0, 40} {
		closed := wantClosed(t, key, ahead, trial.Ordinary(n, 83))
		for at := n; at < n+32; at++ {
			for bits := 1; bits < 256; bits++ {
				wantNotOpened(t, "one byte of the tag changed", key, ahead, trial.Changed(closed, at, byte(bits)), api.ErrTag)
			}
		}
	}
}

// P12.1 (B1), P12.3: and with other bytes in their place, made of the tag, or of a part of it.
func TestOtherBytesMadeOfTheTag(t *testing.T) {
	for _, key := range trial.Seeds(32, 3) {
		for _, ahead := range [][]byte{nil, []byte("ahead")} {
			for _, n := range []int{0, 1, 32, 40, 64, maxSeal} {
				closed := wantClosed(t, key, ahead, trial.Ordinary(n, 84))
				hidden, tag := closed[:n], closed[n:]
				for _, other := range append(madeOfTag(key, ahead, tag), inPart(tag)...) {
					wantNotOpened(t, "other bytes made of the tag", key, ahead, trial.Joined(hidden, other), api.ErrTag)
				}
				wantOpened(t, key, ahead, trial.Joined(hidden, tag), trial.Ordinary(n, 84))
			}
		}
	}
}

// P12.1 (B2), P12.3: likewise of what was sent.
func TestTagsOfSent(t *testing.T) {
	p, info, ahead, text := ordinary(t, 40), []byte("info"), []byte("ahead"), []byte("some text")
	sent := wantSent(t, p, info, ahead, text, trial.Ordinary(32, 85))
	end := len(sent) - 32
	for at := end; at < len(sent); at++ {
		for bit := range 8 {
			wantNotReceived(t, "one bit of the tag turned", p.dk, info, ahead, trial.Changed(sent, at, 1<<bit), api.ErrTag)
		}
	}
	key := plainKeyOf(plainSecret(t, p.d, p.z, sent[:1088]), info)
	for _, other := range madeOfTag(key, ahead, sent[end:]) {
		wantNotReceived(t, "other bytes made of the tag", p.dk, info, ahead, trial.Joined(sent[:end], other), api.ErrTag)
	}
}
