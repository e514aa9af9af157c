package hkdf_test

import (
	"bytes"
	"crypto/hmac"
	"crypto/sha256"
	"encoding/hex"
	"math"
	"slices"
	"strings"
	"testing"

	"sodality/hkdf"
)

// some is n bytes, all of which hang on where they stand, and on which they are.
func some(n int, which int) []byte {
	b := make([]byte, n)
	for i := range b {
		b[i] = byte(i*7 + i>>8*13 + which*31 + 1)
	}
	return b
}

// standardMac is the tag as the library of the language has it.
func standardMac(key []byte, parts ...[]byte) []byte {
	h := hmac.New(sha256.New, key)
	for _, part := range parts {
		h.Write(part)
	}
	return h.Sum(nil)
}

// standardExpand is all 8160 bytes, piece by piece, cut.
func standardExpand(key, info []byte, n int) []byte {
	var all, last []byte
	for i := 1; i <= 255; i++ {
		last = standardMac(key, last, info, []byte{byte(i)})
		all = append(all, last...)
	}
	return all[:n]
}

// standardInfo is what the chapter's words make of a label, with each length written out.
func standardInfo(label string, context []byte, n int) []byte {
	info := []byte{byte(n / 256), byte(n % 256), byte(8 + len(label))}
	info = append(info, "GKA 1.0 "+label...)
	if l := len(context); l < 64 {
		info = append(info, byte(l))
	} else {
		info = append(info, byte((l+16384)/256), byte((l+16384)%256))
	}
	return append(info, context...)
}

func wantBytes(t *testing.T, what string, got, want []byte) {
	t.Helper()
	if !bytes.Equal(got, want) {
		t.Fatalf("%s: got %d bytes %x, want %d bytes %x", what, len(got), got, len(want), want)
	}
}

func wantHex(t *testing.T, what string, got []byte, want string) {
	t.Helper()
	if hex.EncodeToString(got) != strings.ReplaceAll(want, " ", "") {
		t.Errorf("%s: got %x, want %s", what, got, want)
	}
}

func wantNothing(t *testing.T, what string, got []byte) {
	t.Helper()
	if len(got) != 0 {
		t.Errorf("%s: got %d bytes, want nothing", what, len(got))
	}
}

func unhex(t *testing.T, s string) []byte {
	t.Helper()
	b, err := hex.DecodeString(strings.ReplaceAll(s, " ", ""))
	if err != nil {
		t.Fatal(err)
	}
	return b
}

func keyLengths() []int { return []int{0, 1, 31, 32, 33, 63, 64, 65, 127, 128, 129, 1000} }

func goodCounts() []int {
	return []int{0, 1, 31, 32, 33, 63, 64, 65, 255, 256, 257, 8127, 8128, 8129, 8159, 8160}
}

func badCounts() []int {
	return []int{math.MinInt, -65536, -256, -1, 8161, 8192, 65535, 65536, 65537, 1 << 31, math.MaxInt}
}

// P3.1: the chapter's example.
func TestExample(t *testing.T) {
	got := hkdf.Mac([]byte("key"), []byte("The quick brown fox jumps over the lazy dog"))
	wantHex(t, "Mac", got, "f7bc83f4 30538424 b13298e6 aa6fb143 ef4d59a1 49461759 97479dbc 2d1a3cd8")
}

// P3.1: tags that were published (RFC 4231), under short keys and one longer than a block.
func TestPublishedTags(t *testing.T) {
	for _, c := range []struct {
		key, text []byte
		want      string
	}{
		{bytes.Repeat([]byte{0x0b}, 20), []byte("Hi There"), "b0344c61d8db38535ca8afceaf0bf12b881dc200c9833da726e9376c2e32cff7"},
		{[]byte("Jefe"), []byte("what do ya want for nothing?"), "5bdcc146bf60754e6a042426089575c75a003f089d2739839dec58b964ec3843"},
		{bytes.Repeat([]byte{0xaa}, 20), bytes.Repeat([]byte{0xdd}, 50), "773ea91e36800e46854db8ebd09181a72959098b3ef8c122d9635514ced565fe"},
		{bytes.Repeat([]byte{0xaa}, 131), []byte("Test Using Larger Than Block-Size Key - Hash Key First"), "60e431591ee0b67f0d8a26aacbf5b77f8e0bc6213728c5140546040f0ee37f54"},
		{nil, nil, "b613679a0814d9ec772f95d778c35fc5ff1697c493715653c6c712144292c5ad"},
	} {
		wantHex(t, "Mac", hkdf.Mac(c.key, c.text), c.want)
	}
}

// P3.1: keys that were published (RFC 5869): ordinary, long, and with neither salt nor info.
func TestPublishedKeys(t *testing.T) {
	long := func(from int) []byte {
		b := make([]byte, 80)
		for i := range b {
			b[i] = byte(from + i)
		}
		return b
	}
	for _, c := range []struct {
		salt, key, info []byte
		prk, out        string
	}{
		{unhex(t, "000102030405060708090a0b0c"), bytes.Repeat([]byte{0x0b}, 22), unhex(t, "f0f1f2f3f4f5f6f7f8f9"),
			"077709362c2e32df0ddc3f0dc47bba6390b6c73bb50f9c3122ec844ad7c2b3e5",
			"3cb25f25faacd57a90434f64d0362f2a2d2d0a90cf1a5a4c5db02d56ecc4c5bf34007208d5b887185865"},
		{long(0x60), long(0), long(0xb0),
			"06a6b88c5853361a06104c9ceb35b45cef760014904671014a193f40c15fc244",
			"b11e398dc80327a1c8e7f78c596a49344f012eda2d4efad8a050cc4c19afa97c59045a99cac7827271cb41c65e590e09da3275600c2f09b8367793a9aca3db71cc30c58179ec3e87c14c01d5c1f3434f1d87"},
		{nil, bytes.Repeat([]byte{0x0b}, 22), nil,
			"19ef24a32c717b167f33a91d6f648bdf96596776afdb6377ac434c1c293ccb04",
			"8da4e775a563c18f715f802a063c5a31b8a11f5c5ee1879ec3454e5f3c738d2d9d201395faa4b61a96c8"},
	} {
		prk := hkdf.Extract(c.salt, c.key)
		wantHex(t, "Extract", prk, c.prk)
		wantHex(t, "Expand", hkdf.Expand(prk, c.info, len(c.out)/2), c.out)
	}
}

// P3.1, H1: every length of a key up to some blocks, and texts around a block.
func TestTagsOfEveryKeyLength(t *testing.T) {
	for length := range 200 {
		key := some(length, 0)
		for _, n := range []int{0, 1, 55, 56, 63, 64, 65, 200} {
			text := some(n, 1)
			wantBytes(t, "Mac", hkdf.Mac(key, text), standardMac(key, text))
		}
	}
}

// P3.1, H1: of no byte, 63, 64 and 65 bytes: a key of at most a block counts with bytes 0 behind it, a longer one as its sum.
func TestKeysAroundABlock(t *testing.T) {
	text := some(70, 1)
	wantBytes(t, "nil and no byte", hkdf.Mac(nil, text), hkdf.Mac([]byte{}, text))
	for _, n := range []int{0, 1, 63} {
		key := some(n, 0)
		wantBytes(t, "with bytes 0 behind", hkdf.Mac(key, text), hkdf.Mac(append(key, make([]byte, 64-n)...), text))
	}
	for _, n := range []int{65, 66, 1000} {
		sum := sha256.Sum256(some(n, 0))
		wantBytes(t, "as its sum", hkdf.Mac(some(n, 0), text), hkdf.Mac(sum[:], text))
	}
	sum := sha256.Sum256(some(64, 0))
	if bytes.Equal(hkdf.Mac(some(64, 0), text), hkdf.Mac(sum[:], text)) {
		t.Error("a key of 64 bytes counts as its sum")
	}
	if bytes.Equal(hkdf.Mac(make([]byte, 65), text), hkdf.Mac(make([]byte, 64), text)) {
		t.Error("a key of 65 bytes is cut")
	}
}

// P3.1, H1: keys whose bytes are the marks themselves, the smallest and the greatest.
func TestKeysOfAlikeBytes(t *testing.T) {
	for _, v := range []byte{0, 54, 92, 128, 255} {
		for _, n := range []int{1, 63, 64, 65} {
			key := bytes.Repeat([]byte{v}, n)
			wantBytes(t, "Mac", hkdf.Mac(key, key), standardMac(key, key))
		}
	}
}

func TestTagOfLongText(t *testing.T) {
	for _, n := range []int{1 << 16, 1<<20 + 1} {
		wantBytes(t, "Mac", hkdf.Mac(some(n, 0), some(n, 1)), standardMac(some(n, 0), some(n, 1)))
	}
}

// P3.1, H2: Extract is Mac, its salt the key.
func TestExtract(t *testing.T) {
	for _, s := range keyLengths() {
		for _, k := range keyLengths() {
			wantBytes(t, "Extract", hkdf.Extract(some(s, 0), some(k, 1)), standardMac(some(s, 0), some(k, 1)))
		}
	}
}

// P3.1, H2: Expand at the edges of n, of the key and of the info.
func TestExpand(t *testing.T) {
	for _, k := range keyLengths() {
		for _, i := range []int{0, 1, 31, 32, 64, 300} {
			key, info := some(k, 0), some(i, 1)
			all := standardExpand(key, info, 8160)
			for _, n := range goodCounts() {
				wantBytes(t, "Expand", hkdf.Expand(key, info, n), all[:n])
			}
		}
	}
}

// P3.1, H2 and H3: nothing, if n is below 0 or above 8160.
func TestCountsThatMayNotBe(t *testing.T) {
	for _, n := range badCounts() {
		wantNothing(t, "Expand", hkdf.Expand(some(32, 0), some(5, 1), n))
		wantNothing(t, "Expand of nothing", hkdf.Expand(nil, nil, n))
		wantNothing(t, "Label", hkdf.Label(some(32, 0), "key", some(5, 1), n))
		wantNothing(t, "Label of nothing", hkdf.Label(nil, "", nil, n))
	}
}

// P3.2: fewer bytes are the beginning of more, at every n.
func TestFewerAreTheBeginning(t *testing.T) {
	for _, k := range []int{0, 32, 65} {
		key, info := some(k, 0), some(k+3, 1)
		all := hkdf.Expand(key, info, 8160)
		if len(all) != 8160 {
			t.Fatalf("got %d bytes, want 8160", len(all))
		}
		for n := 0; n <= 300; n++ {
			wantBytes(t, "the beginning", hkdf.Expand(key, info, n), all[:n])
		}
		for n := 300; n <= 8160; n += 61 {
			wantBytes(t, "the beginning", hkdf.Expand(key, info, n), all[:n])
		}
	}
}

// P3: what was handed in is not changed, nor its spare room.
func TestHandedInIsLeft(t *testing.T) {
	for _, n := range []int{0, 1, 32, 63, 64, 65, 100} {
		a, b := some(n+80, 0), some(n+80, 1)
		beforeA, beforeB := slices.Clone(a), slices.Clone(b)
		hkdf.Mac(a[:n], b[:n])
		hkdf.Extract(a[:n], b[:n])
		hkdf.Expand(a[:n], b[:n], 100)
		hkdf.Label(a[:n], "label", b[:n], 100)
		hkdf.Equal(a[:n], b[:n])
		wantBytes(t, "the key, with its spare room", a, beforeA)
		wantBytes(t, "the text, with its spare room", b, beforeB)
	}
}

// calls are those that answer bytes, each over one key and one text.
func calls() map[string]func(a, b []byte) []byte {
	return map[string]func(a, b []byte) []byte{
		"Mac":               hkdf.Mac,
		"Extract":           hkdf.Extract,
		"Expand":            func(a, b []byte) []byte { return hkdf.Expand(a, b, 70) },
		"Expand to a piece": func(a, b []byte) []byte { return hkdf.Expand(a, b, 32) },
		"Expand to few":     func(a, b []byte) []byte { return hkdf.Expand(a, b, 7) },
		"Label":             func(a, b []byte) []byte { return hkdf.Label(a, "label", b, 70) },
	}
}

// P3: what was handed in is not kept: changed afterwards, it changes neither what came out nor what comes.
func TestHandedInIsNotKept(t *testing.T) {
	for name, call := range calls() {
		for _, n := range []int{1, 32, 63, 64, 65, 100} {
			a, b := some(n, 0), some(n, 1)
			want := slices.Clone(call(a, b))
			got := call(a, b)
			for i := range a {
				a[i], b[i] = ^a[i], ^b[i]
			}
			wantBytes(t, name+", handed in changed afterwards", got, want)
			wantBytes(t, name+", asked anew", call(some(n, 0), some(n, 1)), want)
			if bytes.Equal(call(a, b), want) {
				t.Errorf("%s: what is changed has the same answer", name)
			}
		}
	}
}

// P3: what comes out is new memory each time, its spare room too, also where both arguments are one list.
func TestAnswersAreNewMemory(t *testing.T) {
	for name, call := range calls() {
		for _, n := range []int{0, 32, 64, 65} {
			a := some(n, 0)
			first, second := call(a, a), call(a, a)
			want := slices.Clone(second)
			room := first[:cap(first)]
			for i := range room {
				room[i] = ^room[i]
			}
			_ = append(first, 1, 2, 3)
			wantBytes(t, name+", given ahead of the change", second, want)
			wantBytes(t, name+", given behind the change", call(a, a), want)
			wantBytes(t, name+", handed in", a, some(n, 0))
		}
	}
}

// P3.1, H4: alike, unlike at any place and in any bit, and of unlike lengths.
func TestEqual(t *testing.T) {
	for _, n := range []int{0, 1, 2, 31, 32, 33, 64, 300} {
		a := some(n, 0)
		if !hkdf.Equal(a, some(n, 0)) || !hkdf.Equal(a, a) {
			t.Fatalf("%d bytes that are alike are told unlike", n)
		}
		for i := range n {
			for bit := range 8 {
				b := some(n, 0)
				b[i] ^= 1 << bit
				if hkdf.Equal(a, b) || hkdf.Equal(b, a) {
					t.Fatalf("%d bytes, unlike at %d in bit %d, are told alike", n, i, bit)
				}
			}
		}
		for less := range n {
			if hkdf.Equal(a, a[:less]) || hkdf.Equal(a[:less], a) {
				t.Fatalf("%d bytes and the first %d of them are told alike", n, less)
			}
		}
		if more := append(some(n, 0), 0); hkdf.Equal(a, more) || hkdf.Equal(more, a) {
			t.Fatalf("%d bytes and they with a byte 0 behind are told alike", n)
		}
	}
	if !hkdf.Equal(nil, nil) || !hkdf.Equal(nil, []byte{}) || !hkdf.Equal([]byte{}, nil) {
		t.Error("no bytes and no bytes are told unlike")
	}
}

// P3.1, H4: two places whose differences are alike do not make up for each other.
func TestEqualDoesNotCancel(t *testing.T) {
	if hkdf.Equal([]byte{1, 1}, []byte{0, 0}) || hkdf.Equal([]byte{0, 255}, []byte{255, 0}) || hkdf.Equal([]byte{128, 128}, []byte{0, 0}) {
		t.Error("unlike texts are told alike")
	}
}
