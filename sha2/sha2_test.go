package sha2_test

import (
	"bytes"
	"crypto/sha256"
	"encoding/hex"
	"slices"
	"strings"
	"testing"

	"sodality/api"
	"sodality/sha2"
)

// some is n bytes, all of which hang on where they stand.
func some(n int) []byte {
	b := make([]byte, n)
	for i := range b {
		b[i] = byte(i*7 + i>>8*13 + 1)
	}
	return b
}

// standard is the sum as the library of the language has it.
func standard(b []byte) []byte {
	sum := sha256.Sum256(b)
	return sum[:]
}

func wantBytes(t *testing.T, what string, got, want []byte) {
	t.Helper()
	if !bytes.Equal(got, want) {
		t.Fatalf("%s: got %d bytes %x, want %d bytes %x", what, len(got), got, len(want), want)
	}
}

func wantHex(t *testing.T, what string, got []byte, want string) {
	t.Helper()
	if hex.EncodeToString(got) != strings.ReplaceAll(want, " ", "") {
		t.Errorf("%s: got %x, want %s", what, got, want)
	}
}

// edges are the lengths at which a block, or what ends the last one, begins or ends.
func edges() []int {
	return []int{0, 1, 54, 55, 56, 57, 63, 64, 65, 118, 119, 120, 121, 127, 128, 129, 183, 184, 192}
}

const (
	sumOfNone = "e3b0c442 98fc1c14 9afbf4c8 996fb924 27ae41e4 649b934c a495991b 7852b855"
	sumOfABC  = "ba7816bf 8f01cfea 414140de 5dae2223 b00361a3 96177a9c b410ff61 f20015ad"
)

// P2.1: the chapter's examples, by both ways.
func TestExamples(t *testing.T) {
	wantHex(t, "Sum(nil)", sha2.Sum(nil), sumOfNone)
	wantHex(t, "Sum(no bytes)", sha2.Sum([]byte{}), sumOfNone)
	wantHex(t, "Sum(abc)", sha2.Sum([]byte("abc")), sumOfABC)
	h := sha2.New()
	wantHex(t, "nothing written", h.Sum(), sumOfNone)
	h.Write([]byte("abc"))
	wantHex(t, "abc written", h.Sum(), sumOfABC)
}

// P2.1: others of the published standard, of one block, of two, and of many.
func TestPublished(t *testing.T) {
	for text, want := range map[string]string{
		"abcdbcdecdefdefgefghfghighijhijkijkljklmklmnlmnomnopnopq":                                                         "248d6a61 d20638b8 e5c02693 0c3e6039 a33ce459 64ff2167 f6ecedd4 19db06c1",
		"abcdefghbcdefghicdefghijdefghijkefghijklfghijklmghijklmnhijklmnoijklmnopjklmnopqklmnopqrlmnopqrsmnopqrstnopqrstu": "cf5b16a7 78af8380 036ce59e 7b049237 0b249b11 e8f07a51 afac4503 7afee9d1",
		strings.Repeat("a", 1000000): "cdc76e5c 9914fb92 81a1c7e2 84d73e67 f1809a48 a497200e 046d39cc c7112cd0",
	} {
		wantHex(t, text[:20], sha2.Sum([]byte(text)), want)
	}
}

// P2.1: every length up to some blocks, the edges of a block among them, by both ways.
func TestEveryLength(t *testing.T) {
	for n := range 520 {
		b := some(n)
		want := standard(b)
		wantBytes(t, "Sum", sha2.Sum(b), want)
		h := sha2.New()
		h.Write(b)
		wantBytes(t, "Write and Sum", h.Sum(), want)
	}
}

// P2.1: bytes that are all alike, the smallest and the greatest, and the one that ends.
func TestAlikeBytesAtEdges(t *testing.T) {
	for _, v := range []byte{0, 1, 127, 128, 255} {
		for _, n := range edges() {
			b := bytes.Repeat([]byte{v}, n)
			wantBytes(t, "alike bytes", sha2.Sum(b), standard(b))
		}
	}
}

// P2.1: a text of bytes and itself with a byte 128, or 0, behind it are not alike.
func TestEndsAreNotAlike(t *testing.T) {
	seen := map[string]int{}
	b := []byte{}
	for n := range 140 {
		sum := string(sha2.Sum(b))
		if other, ok := seen[sum]; ok {
			t.Fatalf("%d and %d bytes have one sum", other, n)
		}
		seen[sum] = n
		if n == 0 {
			b = append(b, 128)
		} else {
			b = append(b, 0)
		}
	}
}

func TestLongBytes(t *testing.T) {
	for _, n := range []int{1<<16 - 1, 1 << 16, api.MaxHash, api.MaxHash + 1, 5*api.MaxHash + 17} {
		b := some(n)
		wantBytes(t, "long bytes", sha2.Sum(b), standard(b))
	}
}

// P2.1: the count of bits has more than 4 bytes; its upper ones are told too.
func TestCountBeyondFourBytes(t *testing.T) {
	if testing.Short() {
		t.Skip("goes through half of 2^30 bytes")
	}
	part := some(1 << 20)
	got, want := sha2.New(), sha256.New()
	for range 513 {
		got.Write(part)
		want.Write(part)
	}
	wantBytes(t, "2^32 bits and more", got.Sum(), want.Sum(nil))
}

// P2.2: parts of one length each, with parts of no bytes between them.
func TestPartsOfOneLength(t *testing.T) {
	b := some(3*64 + 5)
	want := standard(b)
	for part := 1; part <= len(b); part++ {
		h := sha2.New()
		for i := 0; i < len(b); i += part {
			h.Write(nil)
			h.Write(b[i:min(i+part, len(b))])
			h.Write([]byte{})
		}
		wantBytes(t, "in parts", h.Sum(), want)
	}
}

// P2.2: every cut into two, at every length around a block.
func TestEveryCut(t *testing.T) {
	for _, n := range edges() {
		b := some(n)
		want := standard(b)
		for cut := 0; cut <= n; cut++ {
			h := sha2.New()
			h.Write(b[:cut])
			h.Write(b[cut:])
			wantBytes(t, "cut in two", h.Sum(), want)
		}
	}
}

// P2.2: cut into three at the edges, so that a part begins and ends within a block, or goes over several.
func TestThreeParts(t *testing.T) {
	b := some(320)
	for _, first := range edges() {
		for _, second := range edges() {
			if first+second > len(b) {
				continue
			}
			h := sha2.New()
			h.Write(b[:first])
			h.Write(b[first : first+second])
			h.Write(b[first+second:])
			wantBytes(t, "cut in three", h.Sum(), standard(b))
		}
	}
}

// P2.2: to ask changes nothing, at any length, and more may be written behind.
func TestAskedAndWrittenAgain(t *testing.T) {
	b := some(300)
	h := sha2.New()
	for n, v := range b {
		want := standard(b[:n])
		wantBytes(t, "asked", h.Sum(), want)
		wantBytes(t, "asked again", h.Sum(), want)
		h.Write([]byte{v})
	}
	wantBytes(t, "all", h.Sum(), standard(b))
}

func TestAskedAtEdges(t *testing.T) {
	for _, first := range edges() {
		for _, second := range edges() {
			b := some(first + second)
			h := sha2.New()
			h.Write(b[:first])
			wantBytes(t, "ahead", h.Sum(), standard(b[:first]))
			h.Write(b[first:])
			wantBytes(t, "behind", h.Sum(), standard(b))
			wantBytes(t, "behind, again", h.Sum(), standard(b))
		}
	}
}

func TestNoBytesChangeNothing(t *testing.T) {
	for _, n := range edges() {
		h := sha2.New()
		h.Write(some(n))
		h.Write(nil)
		h.Write([]byte{})
		h.Write(make([]byte, 0, 64))
		wantBytes(t, "with no bytes behind", h.Sum(), standard(some(n)))
	}
}

// P3: a hash hangs on what was written to it alone, and not on others.
func TestHashesDoNotMix(t *testing.T) {
	a, b := sha2.New(), sha2.New()
	for n := range 200 {
		a.Write([]byte{byte(n)})
		b.Write([]byte{byte(n), byte(n + 1)})
		sha2.Sum(some(n))
	}
	var wantA, wantB []byte
	for n := range 200 {
		wantA = append(wantA, byte(n))
		wantB = append(wantB, byte(n), byte(n+1))
	}
	wantBytes(t, "the first", a.Sum(), standard(wantA))
	wantBytes(t, "the second", b.Sum(), standard(wantB))
	wantBytes(t, "a new one", sha2.New().Sum(), standard(nil))
}

// P3: what was handed in is not changed, nor its spare room, and not kept.
func TestHandedInIsLeftAndNotKept(t *testing.T) {
	for _, n := range edges() {
		room := some(n + 80)
		before := slices.Clone(room)
		wantBytes(t, "Sum", sha2.Sum(room[:n]), standard(before[:n]))
		h := sha2.New()
		h.Write(room[:n])
		h.Sum()
		wantBytes(t, "handed in, with its spare room", room, before)
		for i := range room {
			room[i] = ^room[i]
		}
		wantBytes(t, "changed afterwards", h.Sum(), standard(before[:n]))
	}
}

// P3: sums are new memory each, their spare room too.
func TestSumsAreNewMemory(t *testing.T) {
	h := sha2.New()
	h.Write([]byte("abc"))
	for _, ask := range []func() []byte{h.Sum, func() []byte { return sha2.Sum([]byte("abc")) }} {
		first := ask()
		second := ask()
		room := first[:cap(first)]
		for i := range room {
			room[i] = 255
		}
		_ = append(first, 1, 2, 3)
		wantHex(t, "given ahead of the change", second, sumOfABC)
		wantHex(t, "given behind the change", ask(), sumOfABC)
	}
}

func TestSumsHave32Bytes(t *testing.T) {
	for _, n := range edges() {
		if got := len(sha2.Sum(some(n))); got != 32 {
			t.Errorf("the sum of %d bytes has %d", n, got)
		}
	}
}
