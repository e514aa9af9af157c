package keccak_test

import (
	"bytes"
	"crypto/sha3"
	"encoding/hex"
	"math"
	"testing"

	"sodality/api"
	"sodality/keccak"
)

// some is n bytes, all of which hang on where they stand.
func some(n int) []byte {
	b := make([]byte, n)
	for i := range b {
		b[i] = byte(i*7 + i>>8*13 + 1)
	}
	return b
}

func taken(rate int, end byte, b []byte) *keccak.Sponge {
	s := keccak.New(rate, end)
	s.Write(b)
	return s
}

func wantBytes(t *testing.T, what string, got, want []byte) {
	t.Helper()
	if !bytes.Equal(got, want) {
		t.Fatalf("%s: got %d bytes %.40x, want %d bytes %.40x", what, len(got), got, len(want), want)
	}
}

func wantHex(t *testing.T, what string, got []byte, want string) {
	t.Helper()
	if hex.EncodeToString(got) != want {
		t.Errorf("%s: got %x, want %s", what, got, want)
	}
}

// lengths are those around each multiple of a rate, and some more.
func lengths(rate int) []int {
	return []int{0, 1, 2, 7, 8, 9, rate - 2, rate - 1, rate, rate + 1, 2*rate - 1, 2 * rate, 2*rate + 1, 3*rate + 5}
}

// P1.1: the chapter's examples, and others of the published standard.
func TestExamples(t *testing.T) {
	wantHex(t, "Sum256(nothing)", keccak.Sum256(nil), "a7ffc6f8bf1ed76651c14756a061d662f580ff4de43b49fa82d80a4b80f8434a")
	wantHex(t, "Sum256(no bytes)", keccak.Sum256([]byte{}), "a7ffc6f8bf1ed76651c14756a061d662f580ff4de43b49fa82d80a4b80f8434a")
	wantHex(t, "Sum256(abc)", keccak.Sum256([]byte("abc")), "3a985da74fe225b2045c172d6bd390bd855f086e3e9d525b46bfe24511431532")
	wantHex(t, "Sum512(nothing)", keccak.Sum512(nil), "a69f73cca23a9ac5c8b567dc185a756e97c982164fe25859e0d1dcc1475c80a615b2123af1f5f94c11e3e9402c3ac558f500199d95b6d3e301758586281dcd26")
	wantHex(t, "Sum512(abc)", keccak.Sum512([]byte("abc")), "b751850b1a57168a5693cd924b6b096e08f621827444f70d884f5d0240d2712e10e116e9192af3c91a7ec57647e3934057340b4cf408d5a56592f8274eec53f0")
	wantHex(t, "Shake128(nothing, 8)", keccak.Shake128(nil, 8), "7f9c2ba4e88f827d")
	wantHex(t, "Shake256(nothing, 32)", keccak.Shake256(nil, 32), "46b9dd2b0ba88d13233b3feb743eeb243fcd52ea62b81b82b50c27646ed5762f")
}

// P1.1: the four functions are the published standard's, at all lengths around their rates.
func TestFunctionsAreTheStandards(t *testing.T) {
	for n := range 600 {
		b := some(n)
		want256, want512 := sha3.Sum256(b), sha3.Sum512(b)
		wantBytes(t, "Sum256", keccak.Sum256(b), want256[:])
		wantBytes(t, "Sum512", keccak.Sum512(b), want512[:])
		wantBytes(t, "Shake128", keccak.Shake128(b, n), sha3.SumSHAKE128(b, n))
		wantBytes(t, "Shake256", keccak.Shake256(b, n), sha3.SumSHAKE256(b, n))
	}
}

func TestLongBytes(t *testing.T) {
	b := some(api.MaxHash + 1)
	want := sha3.Sum256(b)
	wantBytes(t, "Sum256", keccak.Sum256(b), want[:])
	wantBytes(t, "Shake128", keccak.Shake128(b, api.MaxOut), sha3.SumSHAKE128(b, api.MaxOut))
}

// P1.1 (K1): which rates there are.
func TestNewRates(t *testing.T) {
	for rate := -300; rate <= 300; rate++ {
		may := rate >= 8 && rate <= 192 && rate%8 == 0
		if got := keccak.New(rate, 6) != nil; got != may {
			t.Errorf("New(%d, 6): got one: %v, want: %v", rate, got, may)
		}
	}
	for _, rate := range []int{math.MinInt, math.MinInt + 8, math.MaxInt, math.MaxInt - 7, 1 << 32, 1<<32 + 8, -8, -136} {
		if keccak.New(rate, 6) != nil {
			t.Errorf("New(%d, 6): got one", rate)
		}
	}
}

// P1.1 (K1, K2): each rate, with lengths around it and ends of all kinds, those with 128 too, which meet the last byte's.
func TestEveryRate(t *testing.T) {
	for rate := 8; rate <= 192; rate += 8 {
		for i, n := range lengths(rate) {
			b := some(n)
			end := []byte{6, 31, 0, 1, 128, 255}[i%6]
			got := taken(rate, end, b).Read(2*rate + 3)
			wantBytes(t, "a sponge", got, plainSponge(rate, end, b, 2*rate+3))
		}
	}
}

func TestEveryEnd(t *testing.T) {
	for end := range 256 {
		for _, n := range []int{71, 72} {
			b := some(n)
			wantBytes(t, "an end", taken(72, byte(end), b).Read(40), plainSponge(72, byte(end), b, 40))
		}
	}
}

// P1.1 (K2): how many bytes are given, and when none.
func TestReadBounds(t *testing.T) {
	want := sha3.SumSHAKE128([]byte("abc"), 10+api.MaxOut)
	s := taken(168, 31, []byte("ab"))
	for _, n := range []int{-1, math.MinInt, api.MaxOut + 1, math.MaxInt} {
		if got := s.Read(n); len(got) != 0 {
			t.Errorf("Read(%d): got %d bytes", n, len(got))
		}
	}
	s.Write([]byte("c")) // what was refused did not turn it to giving
	wantBytes(t, "Read(10)", s.Read(10), want[:10])
	for _, n := range []int{-1, math.MinInt, api.MaxOut + 1, math.MaxInt} {
		if got := s.Read(n); len(got) != 0 {
			t.Errorf("Read(%d), giving: got %d bytes", n, len(got))
		}
	}
	wantBytes(t, "Read(MaxOut)", s.Read(api.MaxOut), want[10:])
}

func TestShakeBounds(t *testing.T) {
	for _, n := range []int{-1, math.MinInt, api.MaxOut + 1, math.MaxInt, 0} {
		if a, b := keccak.Shake128(some(9), n), keccak.Shake256(some(9), n); len(a) != 0 || len(b) != 0 {
			t.Errorf("%d bytes: got %d and %d", n, len(a), len(b))
		}
	}
	wantBytes(t, "Shake128", keccak.Shake128(some(9), api.MaxOut), sha3.SumSHAKE128(some(9), api.MaxOut))
	wantBytes(t, "Shake256", keccak.Shake256(some(9), api.MaxOut), sha3.SumSHAKE256(some(9), api.MaxOut))
}

// P1.1 (K2): reading 0 bytes ends the taking all the same.
func TestReadNoneTurnsToGiving(t *testing.T) {
	s := taken(136, 31, []byte("abc"))
	if got := s.Read(0); len(got) != 0 {
		t.Errorf("Read(0): got %d bytes", len(got))
	}
	s.Write([]byte("more"))
	wantBytes(t, "behind Read(0)", s.Read(200), sha3.SumSHAKE256([]byte("abc"), 200))
}

// P1.1 (K1): what gives already takes nothing, wherever in the rate it stands.
func TestWriteWhileGiving(t *testing.T) {
	want := sha3.SumSHAKE256([]byte("abc"), 600)
	for _, n := range lengths(136) {
		s := taken(136, 31, []byte("abc"))
		got := s.Read(n)
		s.Write(some(300))
		got = append(got, s.Read(600-n)...)
		wantBytes(t, "written to while giving", got, want)
	}
}

// P1.2: parts of all lengths, those of no bytes too.
func TestTakenInParts(t *testing.T) {
	for _, rate := range []int{8, 72, 136, 168, 192} {
		b := some(3*rate + 5)
		want := taken(rate, 6, b).Read(50)
		for part := 1; part <= len(b); part++ {
			s := keccak.New(rate, 6)
			for i := 0; i < len(b); i += part {
				s.Write(nil)
				s.Write(b[i:min(i+part, len(b))])
				s.Write([]byte{})
			}
			wantBytes(t, "taken in parts", s.Read(50), want)
		}
	}
}

func TestGivenInParts(t *testing.T) {
	for _, rate := range []int{8, 72, 136, 168, 192} {
		all := 3*rate + 5
		want := taken(rate, 31, some(20)).Read(all)
		for part := 1; part <= all; part++ {
			s := taken(rate, 31, some(20))
			var got []byte
			for len(got) < all {
				got = append(got, s.Read(0)...)
				got = append(got, s.Read(min(part, all-len(got)))...)
			}
			wantBytes(t, "given in parts", got, want)
		}
	}
}

// P1.2: more than MaxOut bytes come in parts; they go on where the last ones ended.
func TestMoreThanMaxOutInParts(t *testing.T) {
	s := taken(168, 31, nil)
	got := append(s.Read(api.MaxOut), s.Read(api.MaxOut)...)
	wantBytes(t, "two times MaxOut", got, sha3.SumSHAKE128(nil, 2*api.MaxOut))
}

func TestTwoSpongesAtOnce(t *testing.T) {
	a, b := keccak.New(136, 6), keccak.New(136, 6)
	for _, v := range some(200) {
		a.Write([]byte{v})
		b.Write([]byte{v + 1})
		b.Write([]byte{v})
	}
	wantBytes(t, "the first", a.Read(32), keccak.Sum256(some(200)))
	if bytes.Equal(b.Read(32), keccak.Sum256(some(200))) {
		t.Error("the second is the first")
	}
}

// P1.3.
func TestFewerAreTheBeginningOfMore(t *testing.T) {
	b := some(99)
	long128, long256 := keccak.Shake128(b, api.MaxOut), keccak.Shake256(b, api.MaxOut)
	for n := range 700 {
		wantBytes(t, "Shake128", keccak.Shake128(b, n), long128[:n])
		wantBytes(t, "Shake256", keccak.Shake256(b, n), long256[:n])
	}
	wantBytes(t, "Shake128", keccak.Shake128(b, api.MaxOut-1), long128[:api.MaxOut-1])
	wantBytes(t, "Shake256", keccak.Shake256(b, api.MaxOut-1), long256[:api.MaxOut-1])
}

// P3: lists that are handed in are neither changed nor kept, nor is their spare room.
func TestListsHandedIn(t *testing.T) {
	room := some(400)
	b := room[100:300]
	s := taken(136, 6, b)
	keccak.Sum256(b)
	keccak.Sum512(b)
	keccak.Shake128(b, 300)
	keccak.Shake256(b, 300)
	wantBytes(t, "what was handed in", room, some(400))
	want := keccak.Sum256(b)
	clear(room)
	wantBytes(t, "behind a change of what was handed in", s.Read(32), want)
}

// P3: lists that come out are new memory: to change them changes nothing else.
func TestListsThatComeOut(t *testing.T) {
	want := sha3.SumSHAKE256(nil, 300)
	s := keccak.New(136, 31)
	first := s.Read(100)
	again := append(first, some(100)...)
	clear(first[:cap(first)])
	second := s.Read(200)
	wantBytes(t, "behind a change of what came out", second, want[100:])
	clear(again[:cap(again)])
	wantBytes(t, "what came out next", second, want[100:])
	sum := keccak.Sum256(nil)
	clear(sum[:cap(sum)])
	wantHex(t, "Sum256 again", keccak.Sum256(nil)[:4], "a7ffc6f8")
}
