package box_test

import (
	"bytes"
	"crypto/sha256"
	"encoding/hex"
	"slices"
	"testing"

	"sodality/api"
	"sodality/box"
	"sodality/trial"
)

// edges are lengths around which a length's bytes are more, or a stream goes on; the least and the most that may be are among them.
func edges() []int {
	return []int{0, 1, 2, 31, 32, 33, 63, 64, 65, 135, 136, 137, 271, 272, 273, 16383, 16384, 16385, maxSeal - 1, maxSeal}
}

// few are the least, the most, and some between.
func few() []int { return []int{0, 1, 40, 64, 5000, maxSeal} }

func byHex(t *testing.T, s string) []byte {
	t.Helper()
	b, err := hex.DecodeString(s)
	if err != nil {
		t.Fatal(err)
	}
	return b
}

// counted are 0, 1, 2 and so on.
func counted(n int) []byte {
	out := make([]byte, n)
	for i := range out {
		out[i] = byte(i)
	}
	return out
}

// P12.1 (B1): what was told by other means, written out.
func TestClosedByHand(t *testing.T) {
	for _, x := range []struct {
		key, ahead, text []byte
		want             string
	}{
		{make([]byte, 32), nil, nil, "63294874d358bacbc7274071812d9e32d99e1ac8cc1cd4caf34f2218e5c83e5f"},
		{counted(32), []byte("ahead"), []byte("text"), "803d07bbee210535515cfff6e83b8add031900ecd7b76e4d148412fb151aeacfffc7cd71"},
		{bytes.Repeat([]byte{255}, 32), make([]byte, 100), make([]byte, 8), "35bcd7056f0afa8bd4353e7ba7308425097a7daabf713b2a8a662f6a08c09aec087bf85bed4b9e5a"},
	} {
		trial.WantBytes(t, "closed", wantClosed(t, x.key, x.ahead, x.text), byHex(t, x.want))
	}
	most := wantClosed(t, counted(32), bytes.Repeat([]byte("a"), maxSeal), bytes.Repeat([]byte("t"), maxSeal))
	sum := sha256.Sum256(most)
	trial.WantBytes(t, "the sum of as much as may be", sum[:], byHex(t, "ec10fb2f536700ec7c77f63bba472dfa927cb28a94b36bacae738d5eb047c22b"))
}

// P12.1 (B1), P12.2, P12.4: ordinary keys and such as are all alike, with what stands ahead and texts likewise.
func TestClosedThereAndBack(t *testing.T) {
	for _, key := range trial.Seeds(32, 4) {
		for _, ahead := range append(trial.Seeds(30, 2), nil, []byte{}) {
			for _, text := range append(trial.Seeds(300, 2), nil, []byte{}) {
				wantClosed(t, key, ahead, text)
			}
		}
	}
}

// P12.1 (B1), P12.2, P12.4: texts of all lengths up to some, of each edge, and of one byte more than may be.
func TestLengthsOfTexts(t *testing.T) {
	key := trial.Ordinary(32, 1)
	for n := range 300 {
		wantClosed(t, key, []byte("ahead"), trial.Ordinary(n, n))
	}
	for _, n := range edges() {
		for _, ahead := range few() {
			wantClosed(t, key, trial.Ordinary(ahead, 2), trial.Ordinary(n, 3))
		}
	}
	for _, n := range []int{maxSeal + 1, maxSeal + 2, maxSeal + 32, 2 * maxSeal, 1<<20 + 1} {
		for _, ahead := range few() {
			wantNotClosed(t, "a text too long", key, make([]byte, ahead), make([]byte, n), api.ErrTooMany)
		}
	}
}

// P12.1 (B1), P12.2: what stands ahead, of lengths likewise.
func TestLengthsAhead(t *testing.T) {
	key := trial.Ordinary(32, 4)
	for n := range 300 {
		wantClosed(t, key, trial.Ordinary(n, n), []byte("text"))
	}
	for _, n := range edges() {
		for _, text := range few() {
			wantClosed(t, key, trial.Ordinary(n, 5), trial.Ordinary(text, 6))
		}
	}
	for _, n := range []int{maxSeal + 1, maxSeal + 2, maxSeal + 32, 2 * maxSeal, 1 << 20, 1<<20 + 1} {
		for _, text := range few() {
			ahead := make([]byte, n)
			wantNotClosed(t, "too much ahead", key, ahead, make([]byte, text), api.ErrTooMany)
			wantNotOpened(t, "too much ahead", key, ahead, plainClose(key, ahead, make([]byte, text)), api.ErrTooMany)
		}
	}
}

// P12.1 (B1), P2: a key has 32 bytes, whatever it would close or open.
func TestKeysOfWrongLengths(t *testing.T) {
	wrong := append(trial.Seeds(31, 1), trial.Seeds(33, 1)...)
	for _, n := range append(trial.Around(32), 64, 65) {
		wrong = append(wrong, trial.Ordinary(n, 7))
	}
	for _, key := range append(wrong, nil, []byte{}) {
		for _, text := range [][]byte{nil, []byte("text")} {
			wantNotClosed(t, "a wrong key", key, []byte("ahead"), text, api.ErrArg)
			wantNotOpened(t, "a wrong key", key, []byte("ahead"), plainClose(key, []byte("ahead"), text), api.ErrArg)
		}
	}
}

// P12.1 (B1), P2: closed bytes of lengths that may be, and such as may not, with a tag that is right wherever there is room for one.
func TestLengthsOfWhatIsClosed(t *testing.T) {
	key := trial.Ordinary(32, 8)
	for _, n := range []int{0, 1, 2, maxSeal - 1, maxSeal} {
		text := trial.Ordinary(n, 9)
		wantOpened(t, key, nil, plainClose(key, nil, text), text)
	}
	for _, n := range []int{1, 2, 32, maxSeal} {
		wantNotOpened(t, "too long", key, nil, plainClose(key, nil, make([]byte, maxSeal+n)), api.ErrTooMany)
	}
	tag := plainClose(key, nil, nil)
	for n := range 32 {
		wantNotOpened(t, "the first bytes of a tag alone", key, nil, tag[:n], api.ErrTag)
		wantNotOpened(t, "the last bytes of a tag alone", key, nil, tag[32-n:], api.ErrTag)
		wantNotOpened(t, "bytes 0 alone", key, nil, make([]byte, n), api.ErrTag)
	}
	wantNotOpened(t, "nil", key, nil, nil, api.ErrTag)
	for _, n := range []int{32, 33, 34, 63, 64, 65, maxSeal + 31, maxSeal + 32} {
		for _, closed := range trial.Seeds(n, 2) {
			wantNotOpened(t, "what nobody closed", key, nil, closed, api.ErrTag)
		}
	}
	for _, closed := range trial.Seeds(maxSeal+33, 2) {
		wantNotOpened(t, "too much that nobody closed", key, nil, closed, api.ErrTooMany)
	}
}

// P12.3: each bit changed of what was closed, in its text's bytes and in its tag's.
func TestOneBitChanged(t *testing.T) {
	key, ahead := trial.Ordinary(32, 10), []byte("ahead")
	for _, n := range []int{0, 1, 4, 33, 200} {
		closed := wantClosed(t, key, ahead, trial.Ordinary(n, 11))
		for at := range closed {
			for bit := range 8 {
				wantNotOpened(t, "one bit changed", key, ahead, trial.Changed(closed, at, 1<<bit), api.ErrTag)
			}
		}
	}
	most := wantClosed(t, key, ahead, trial.Ordinary(maxSeal, 12))
	for _, at := range []int{0, 1, 63, 64, 135, 136, 16384, maxSeal - 1, maxSeal, maxSeal + 1, maxSeal + 31} {
		wantNotOpened(t, "one bit changed of a long one", key, ahead, trial.Changed(most, at, 128), api.ErrTag)
	}
}

// P12.3: several bits changed, among them such as hide each other in a sum; and bytes left out, added or moved.
func TestMoreChanged(t *testing.T) {
	key, ahead := trial.Ordinary(32, 13), []byte("ahead")
	closed := wantClosed(t, key, ahead, trial.Ordinary(50, 14))
	for at := range closed {
		for other := range at {
			wantNotOpened(t, "two bits changed", key, ahead, trial.Changed(trial.Changed(closed, at, 4), other, 4), api.ErrTag)
		}
		wantNotOpened(t, "a byte left out", key, ahead, slices.Delete(bytes.Clone(closed), at, at+1), api.ErrTag)
		wantNotOpened(t, "a byte 0 added", key, ahead, slices.Insert(bytes.Clone(closed), at, 0), api.ErrTag)
		wantNotOpened(t, "the end left out", key, ahead, closed[:at], api.ErrTag)
		wantNotOpened(t, "what is there from here on", key, ahead, closed[at+1:], api.ErrTag)
	}
	hidden, tag := closed[:50], closed[50:]
	for _, x := range [][]byte{
		trial.Joined(closed, []byte{0}), trial.Joined(closed, closed), trial.Joined(tag, hidden), trial.Joined(hidden, make([]byte, 32)),
		trial.Joined(make([]byte, 50), tag), tag, trial.Joined(closed, tag), trial.Joined(hidden, tag[16:], tag[:16]),
	} {
		wantNotOpened(t, "put together otherwise", key, ahead, x, api.ErrTag)
	}
}

// P12.3: parts of two that were closed do not stand for each other.
func TestPartsOfTwo(t *testing.T) {
	key := trial.Ordinary(32, 15)
	a, b := wantClosed(t, key, nil, trial.Ordinary(50, 16)), wantClosed(t, key, nil, trial.Ordinary(50, 17))
	c := wantClosed(t, key, []byte("ahead"), trial.Ordinary(50, 16))
	wantNotOpened(t, "the tag of another text", key, nil, trial.Joined(a[:50], b[50:]), api.ErrTag)
	wantNotOpened(t, "the tag of something else ahead", key, nil, trial.Joined(a[:50], c[50:]), api.ErrTag)
	wantNotOpened(t, "half of each tag", key, nil, trial.Joined(a[:66], c[66:]), api.ErrTag)
}

// P12.1 (B1): of a key's tag each byte counts, and the tag is that of what was closed, not of the text.
func TestTagsOfOtherThings(t *testing.T) {
	key, ahead, text := trial.Ordinary(32, 18), []byte("ahead"), trial.Ordinary(50, 19)
	hidden := plainCrossed(key, text)
	for _, tag := range [][]byte{
		plainTag(key, ahead, text), plainTag(key, nil, trial.Joined(ahead, hidden)), plainTag(key, hidden, ahead),
		plainMac(key, plainText(ahead), hidden), plainMac(plainLabel(key, "tag", nil), ahead, hidden),
		plainMac(plainLabel(key, "stream", nil), plainText(ahead), hidden), plainLabel(key, "tag", nil), plainTag(key, ahead, plainTag(key, ahead, hidden)),
	} {
		wantNotOpened(t, "a tag of something else", key, ahead, trial.Joined(hidden, tag), api.ErrTag)
	}
}

// P12.3: another key, of which one bit is unlike or all are.
func TestAnotherKey(t *testing.T) {
	key, ahead, text := trial.Ordinary(32, 20), []byte("ahead"), []byte("some text")
	closed := wantClosed(t, key, ahead, text)
	for at := range key {
		for bit := range 8 {
			other := trial.Changed(key, at, 1<<bit)
			wantNotOpened(t, "another key", other, ahead, closed, api.ErrTag)
			if again := wantClosed(t, other, ahead, text); bytes.Equal(again, closed) || bytes.Equal(again[:9], closed[:9]) {
				t.Fatal("closed under another key: alike")
			}
		}
	}
	for _, other := range append(trial.Seeds(32, 3), plainLabel(key, "tag", nil), plainLabel(key, "stream", nil)) {
		wantNotOpened(t, "another key", other, ahead, closed, api.ErrTag)
	}
}

// P12.3: something else ahead than there was.
func TestSomethingElseAhead(t *testing.T) {
	key, text := trial.Ordinary(32, 21), []byte("some text")
	for _, n := range []int{1, 2, 62, 63, 64, 65, 300, 16383, 16384, maxSeal - 4} {
		ahead := trial.Ordinary(n, 22)
		closed := wantClosed(t, key, ahead, text)
		for _, other := range [][]byte{
			nil, {}, ahead[1:], ahead[:n-1], trial.Joined(ahead, []byte{0}), trial.Joined([]byte{0}, ahead), trial.Joined(ahead, text[:1]),
			trial.Changed(ahead, 0, 1), trial.Changed(ahead, n/2, 16), trial.Changed(ahead, n-1, 128), text, closed, make([]byte, n), plainText(ahead[:n-1]),
		} {
			wantNotOpened(t, "something else ahead", key, other, closed, api.ErrTag)
		}
	}
	closed := wantClosed(t, key, nil, text)
	for _, other := range [][]byte{{0}, {1}, {0, 0}, text, closed} {
		wantNotOpened(t, "something ahead of what had nothing", key, other, closed, api.ErrTag)
	}
}

// P12.3: each bit of what stands ahead.
func TestOneBitChangedAhead(t *testing.T) {
	key, ahead := trial.Ordinary(32, 23), trial.Ordinary(100, 24)
	closed := wantClosed(t, key, ahead, []byte("some text"))
	for at := range ahead {
		for bit := range 8 {
			wantNotOpened(t, "one bit changed ahead", key, trial.Changed(ahead, at, 1<<bit), closed, api.ErrTag)
		}
	}
}

// P12.3: bytes that are moved from what stands ahead to the text, or the other way, with and without the bytes of a length.
func TestBytesMoved(t *testing.T) {
	key := trial.Ordinary(32, 25)
	for _, n := range []int{1, 2, 10, 63, 64, 65, 200} {
		ahead := trial.Ordinary(n, 26)
		closed := wantClosed(t, key, ahead, trial.Ordinary(n, 27))
		for moved := 1; moved <= n; moved++ {
			wantNotOpened(t, "bytes moved to the text", key, ahead[:n-moved], trial.Joined(ahead[n-moved:], closed), api.ErrTag)
			wantNotOpened(t, "bytes moved to what stands ahead", key, trial.Joined(ahead, closed[:moved]), closed[moved:], api.ErrTag)
		}
		wantNotOpened(t, "all moved, with its length", key, nil, trial.Joined(plainText(ahead), closed), api.ErrTag)
	}
	text := []byte("text")
	if bytes.Equal(wantClosed(t, key, text, nil), wantClosed(t, key, nil, text)[4:]) {
		t.Error("a tag does not tell what stands ahead from the text")
	}
}

// P12.1 (B1): two texts of one length that are closed under one key are unlike just where the texts are; a shorter one's bytes are the beginning of a longer one's.
func TestOneStream(t *testing.T) {
	key := trial.Ordinary(32, 28)
	for _, n := range []int{1, 31, 136, 137, 1000, maxSeal} {
		a, b := trial.Ordinary(n, 29), trial.Ordinary(n, 30)
		copy(b[n/2:], a[n/2:])
		one, two := wantClosed(t, key, []byte("one"), a), wantClosed(t, key, []byte("two"), b)
		for i := range n {
			if one[i]^two[i] != a[i]^b[i] {
				t.Fatalf("of %d bytes: the one at %d", n, i)
			}
		}
		short := wantClosed(t, key, nil, a[:n-1])
		trial.WantBytes(t, "a shorter text", short[:n-1], one[:n-1])
	}
}

// P12.1 (B1): what stands ahead changes the tag alone.
func TestAheadChangesTheTagAlone(t *testing.T) {
	key := trial.Ordinary(32, 31)
	aheads := append(trial.Seeds(20, 3), nil, []byte{0}, []byte{0, 0}, []byte{7}, make([]byte, maxSeal))
	for _, text := range [][]byte{nil, {7}, trial.Ordinary(500, 32)} {
		n, tags := len(text), map[string]bool{}
		first := wantClosed(t, key, nil, text)
		for _, ahead := range aheads {
			closed := wantClosed(t, key, ahead, text)
			trial.WantBytes(t, "the text's bytes", closed[:n], first[:n])
			tags[string(closed[n:])] = true
		}
		if len(tags) != len(aheads) {
			t.Errorf("%d unlike tags, want %d", len(tags), len(aheads))
		}
	}
}

// P2: the key is named ahead of what is too long, and that ahead of the tag.
func TestSeveralErrorsOfClosed(t *testing.T) {
	key, great := trial.Ordinary(32, 33), make([]byte, maxSeal+1)
	for _, wrong := range [][]byte{nil, key[1:], trial.Joined(key, key)} {
		wantNotClosed(t, "a wrong key, and too much ahead", wrong, great, nil, api.ErrArg)
		wantNotClosed(t, "a wrong key, and a text too long", wrong, nil, great, api.ErrArg)
		wantNotClosed(t, "all wrong", wrong, great, great, api.ErrArg)
		wantNotOpened(t, "a wrong key, and too much ahead", wrong, great, make([]byte, 40), api.ErrArg)
		wantNotOpened(t, "a wrong key, and too long", wrong, nil, make([]byte, maxSeal+33), api.ErrArg)
		wantNotOpened(t, "a wrong key, and too short", wrong, nil, make([]byte, 31), api.ErrArg)
		wantNotOpened(t, "all wrong", wrong, great, nil, api.ErrArg)
	}
	wantNotClosed(t, "too much ahead, and a text too long", key, great, great, api.ErrTooMany)
	wantNotOpened(t, "too much ahead, and too short", key, great, make([]byte, 31), api.ErrTooMany)
	wantNotOpened(t, "too much ahead, and nothing", key, great, nil, api.ErrTooMany)
	wantNotOpened(t, "too much ahead, and no tag", key, great, make([]byte, 40), api.ErrTooMany)
	wantNotOpened(t, "too long, and no tag", key, nil, make([]byte, maxSeal+33), api.ErrTooMany)
}

// P12.3: whatever bytes, under whatever keys, are opened as in the other way.
func TestWhateverIsOpened(t *testing.T) {
	opened := 0
	for which := range 200 {
		key, ahead := trial.Ordinary(32, which%2), trial.Ordinary(which%3, 1)
		closed := plainClose(trial.Ordinary(32, 1), trial.Ordinary(1, 1), trial.Ordinary(which, which))
		if wantToldOpen(t, key, ahead, closed) {
			opened++
		}
		wantToldOpen(t, key, ahead, trial.Ordinary(which, which))
	}
	if opened < 30 || opened > 170 {
		t.Errorf("%d of 200 were opened", opened)
	}
}

// P3: the same arguments again, behind other calls and behind errors.
func TestClosedAgain(t *testing.T) {
	key, ahead, text := trial.Ordinary(32, 34), []byte("ahead"), []byte("text")
	first := wantClosed(t, key, ahead, text)
	for _, other := range trial.Seeds(32, 3) {
		wantClosed(t, other, text, ahead)
		wantNotOpened(t, "another key", other, ahead, first, api.ErrTag)
		wantNotClosed(t, "a wrong key", other[1:], ahead, text, api.ErrArg)
		trial.WantBytes(t, "closed again", wantClosed(t, key, ahead, text), first)
	}
}

// The chapter's example.
func TestExamples(t *testing.T) {
	for _, nothing := range [][]byte{nil, {}} {
		b, err := box.Open(make([]byte, 32), nothing, make([]byte, 31))
		trial.WantErr(t, "Open(32 bytes 0, nothing, 31 bytes)", err, api.ErrTag)
		trial.WantBytes(t, "Open(32 bytes 0, nothing, 31 bytes)", b, nil)
	}
}
