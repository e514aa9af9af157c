package wire_test

import (
	"bytes"
	"testing"

	"sodality/api"
	"sodality/trial"
	"sodality/wire"
)

// some is n bytes, of which each hangs on where it stands; n may be more than trial.Ordinary has.
func some(n, which int) []byte {
	const most = 1 << 16
	var out []byte
	for len(out) < n {
		out = append(out, trial.Ordinary(min(n-len(out), most), which+len(out)/most)...)
	}
	return out
}

// edges are lengths around those at which something changes.
func edges() []int {
	return []int{0, 1, 2, 62, 63, 64, 65, 127, 128, 129, 255, 256, 257, 16382, 16383, 16384, 16385, 32767, 32768, 65535, 65536, maxText - 1, maxText}
}

// P11.1: the chapter's examples.
func TestExamples(t *testing.T) {
	s := some(64, 1)
	b, err := wire.Text(s)
	trial.WantErr(t, "Text", err, api.OK)
	trial.WantBytes(t, "Text", b, append([]byte{0x40, 0x40}, s...))
	wantNoText(t, []byte{0x40, 0x01, 'a'}, 0, api.ErrLong)
	if api.MaxText != maxText {
		t.Error("MaxText")
	}
}

// P11.1 (W2): lengths that are told by hand.
func TestLengthsByHand(t *testing.T) {
	for _, x := range []struct {
		n    int
		want []byte
	}{
		{0, []byte{0}},
		{1, []byte{1}},
		{62, []byte{62}},
		{63, []byte{63}},
		{64, []byte{64, 64}},
		{65, []byte{64, 65}},
		{255, []byte{64, 255}},
		{256, []byte{65, 0}},
		{16382, []byte{127, 254}},
		{16383, []byte{127, 255}},
		{16384, []byte{128, 0, 64, 0}},
		{16385, []byte{128, 0, 64, 1}},
		{65535, []byte{128, 0, 255, 255}},
		{65536, []byte{128, 1, 0, 0}},
		{maxText - 1, []byte{128, 15, 255, 255}},
		{maxText, []byte{128, 16, 0, 0}},
	} {
		s := some(x.n, 2)
		b := wantText(t, s)
		trial.WantBytes(t, "Text", b, trial.Joined(x.want, s))
	}
}

// P11.1 (W2), P11.2: texts of all lengths up to some behind 16384, and of others up to MaxText, each read with bytes ahead and behind.
func TestTextsOfAllLengths(t *testing.T) {
	all := some(maxText, 3)
	lengths := edges()
	for n := range 17000 {
		lengths = append(lengths, n)
	}
	for n := 20011; n < maxText; n += 50021 {
		lengths = append(lengths, n)
	}
	for _, n := range lengths {
		s := all[:n]
		b, err := wire.Text(s)
		trial.WantErr(t, "Text", err, api.OK)
		trial.WantBytes(t, "Text", b, plainText(s))
		if !wantToldText(t, trial.Joined([]byte{255}, b, []byte{255}), 1) {
			t.Fatalf("a text of %d bytes is none", n)
		}
	}
}

// P11.2: ordinary texts, those of no bytes, and bytes that look like lengths, with all sorts of bytes around.
func TestTextsThereAndBack(t *testing.T) {
	for _, s := range empties() {
		wantText(t, s)
	}
	for v := range 256 {
		wantText(t, []byte{byte(v)})
		wantText(t, bytes.Repeat([]byte{byte(v)}, 70))
	}
	for _, n := range edges() {
		wantText(t, some(n, 4))
	}
}

// P11.2: texts, numbers and lists, one behind the other.
func TestAllKindsOneBehindTheOther(t *testing.T) {
	var b []byte
	for i, n := range edges() {
		b = append(b, wantText(t, some(n, i))...)
		b = append(b, wire.Number(int64(n), 8)...)
		b = append(b, wantList(t, [][]byte{some(i, n), nil, some(2*i, n)})...)
	}
	at := 0
	for i, n := range edges() {
		s, behind, err := wire.GetText(b, at)
		trial.WantErr(t, "GetText", err, api.OK)
		trial.WantBytes(t, "GetText", s, some(n, i))
		number, behind, err := wire.GetNumber(b, behind, 8)
		if number != int64(n) || err != api.OK {
			t.Fatalf("GetNumber: got %d, %d, want %d", number, err, n)
		}
		l, behind, err := wire.GetList(b, behind)
		trial.WantErr(t, "GetList", err, api.OK)
		wantTexts(t, l, [][]byte{some(i, n), nil, some(2*i, n)})
		at = behind
	}
	wantPlace(t, "behind all", at, len(b))
}

// P11.1 (W2): texts that are too long, when written and when read.
func TestTextsTooLong(t *testing.T) {
	for _, n := range []int{maxText + 1, maxText + 2, 2 * maxText, 1<<24 + 1} {
		b, err := wire.Text(make([]byte, n))
		trial.WantErr(t, "Text", err, api.ErrTooMany)
		trial.WantBytes(t, "Text", b, nil)
		wantNone(t, plainText(make([]byte, n)), 0, api.ErrTooMany)
	}
	for _, n := range []int{maxText + 1, maxText + 2, maxText + 256, maxText + 65536, 2 * maxText, 1 << 24, 1<<30 - maxText, 1<<30 - 2, 1<<30 - 1} {
		for _, more := range []int{0, 1, 1000, maxText, maxText + 1} {
			b := trial.Joined(plainLength(n), make([]byte, more))
			wantNone(t, b, 0, api.ErrTooMany)
			wantNone(t, trial.Joined([]byte{1}, b), 1, api.ErrTooMany)
		}
	}
}

// P11.1 (W2): lengths told in more bytes than need be: all of them, with the bytes that they tell, and without.
func TestLengthsInTooManyBytes(t *testing.T) {
	room := some(1<<14, 5)
	for n := range 1 << 14 {
		four := []byte{128, 0, byte(n >> 8), byte(n)}
		wantNone(t, four, 0, api.ErrLong)
		wantNone(t, trial.Joined(four, room[:n]), 0, api.ErrLong)
		if n < 64 {
			two := []byte{64, byte(n)}
			wantNone(t, two, 0, api.ErrLong)
			wantNone(t, trial.Joined(two, room[:n]), 0, api.ErrLong)
			wantNone(t, trial.Joined([]byte{5}, two, room), 1, api.ErrLong)
		}
	}
	wantToldText(t, trial.Joined([]byte{64, 64}, room), 0) // the first of each that need be
	wantToldText(t, trial.Joined([]byte{128, 0, 64, 0}, room), 0)
}

// P11.1 (W2): first bytes that begin no length, alone and with others behind.
func TestFirstBytesOfNone(t *testing.T) {
	for first := 192; first < 256; first++ {
		for _, rest := range [][]byte{nil, {0}, {64}, {255}, {0, 0}, {0, 0, 0}, {255, 255, 255}, {0, 0, 0, 0, 0, 0, 0}, some(300, 6)} {
			b := trial.Joined([]byte{byte(first)}, rest)
			wantNone(t, b, 0, api.ErrLong)
			wantNone(t, trial.Joined([]byte{0, 0}, b), 2, api.ErrLong)
		}
	}
}

// P11.1 (W2): a length's bytes end too early, whatever they are so far.
func TestLengthsThatEndTooEarly(t *testing.T) {
	for _, b := range empties() {
		wantNone(t, b, 0, api.ErrEnd)
	}
	wantNone(t, []byte{0, 0, 0}, 3, api.ErrEnd)
	for first := 64; first < 192; first++ {
		wantNone(t, []byte{byte(first)}, 0, api.ErrEnd)
		wantNone(t, []byte{9, byte(first)}, 1, api.ErrEnd)
		wantNone(t, []byte{byte(first), 64, 0, 0, 0}[:1], 0, api.ErrEnd) // spare room is no bytes
		if first < 128 {
			continue
		}
		for _, v := range []byte{0, 1, 63, 64, 128, 255} {
			wantNone(t, []byte{byte(first), v}, 0, api.ErrEnd)
			wantNone(t, []byte{byte(first), 0, v}, 0, api.ErrEnd)
			wantNone(t, []byte{byte(first), v, v}, 0, api.ErrEnd)
			wantNone(t, []byte{9, 9, byte(first), v, v}, 2, api.ErrEnd)
		}
	}
}

// P11.1 (W2), P11.3: a text that is cut is none: of each length at each place.
func TestTextsThatEndTooEarly(t *testing.T) {
	for _, n := range edges() {
		b := plainText(some(n, 7))
		ahead := trial.Joined([]byte{255, 255}, b)
		for cut := range b {
			wantNoText(t, b[:cut], 0, api.ErrEnd)
			wantNoText(t, ahead[:2+cut:2+cut], 2, api.ErrEnd)
		}
	}
}

// P11.1 (W2, W3): places that are none, and those at which something stands.
func TestPlacesOfTextsAndLists(t *testing.T) {
	for _, b := range append(empties(), []byte{0}, []byte{1, 0}, []byte{255}, make([]byte, 50), bytes.Repeat([]byte{255}, 50)) {
		for _, at := range noPlaces(len(b)) {
			wantNone(t, b, at, api.ErrArg)
		}
		wantNone(t, b, len(b), api.ErrEnd)
	}
	b := make([]byte, 50)
	for at := range b {
		wantToldText(t, b, at)
		wantToldList(t, b, at)
	}
}

// P11.1 (W2), P2: a place that is none, then an end too early, then no length, then too much, then an end too early.
func TestSeveralErrorsOfTexts(t *testing.T) {
	for _, b := range [][]byte{{192}, {64, 1}, {128}, {128, 16, 0, 1}, {5}} {
		for _, at := range noPlaces(len(b)) {
			wantNone(t, b, at, api.ErrArg)
		}
	}
	wantNone(t, []byte{128, 0, 0}, 0, api.ErrEnd)         // fewer would tell whatever follows
	wantNone(t, []byte{191, 255, 255}, 0, api.ErrEnd)     // too much would, too
	wantNone(t, []byte{64, 63}, 0, api.ErrLong)           // and there are not so many bytes
	wantNone(t, []byte{128, 0, 63, 255}, 0, api.ErrLong)  // likewise
	wantNone(t, []byte{255}, 0, api.ErrLong)              // nor are there four
	wantNone(t, []byte{240, 0, 0, 1}, 0, api.ErrLong)     // as a length it would be too much
	wantNone(t, []byte{128, 16, 0, 1}, 0, api.ErrTooMany) // and there are not so many bytes
	wantNone(t, []byte{128, 16, 0, 0}, 0, api.ErrEnd)     // no more than may be
}

// P11.1 (W2, W3), P11.2: all bytes that are few, each byte of some kinds.
func TestAllFewBytes(t *testing.T) {
	for first := range 256 {
		for second := range 256 {
			for _, rest := range [][]byte{nil, {0}, {1, 0}, {64, 0}, {0, 1, 2}} {
				b := trial.Joined([]byte{byte(first), byte(second)}, rest)
				for at := range len(b) + 1 {
					wantToldText(t, b, at)
					wantToldList(t, b, at)
				}
			}
		}
	}
}

// P11.1 (W2, W3), P11.2: bytes made of a few that say something, of all lengths up to six.
func TestBytesOfFewKinds(t *testing.T) {
	kinds := []byte{0, 1, 2, 3, 64, 128, 255}
	texts, lists := 0, 0
	level := [][]byte{nil}
	for range 6 {
		var next [][]byte
		for _, b := range level {
			for _, v := range kinds {
				b := append(bytes.Clone(b), v)
				next = append(next, b)
				if wantToldText(t, b, 0) {
					texts++
				}
				if wantToldList(t, b, 0) {
					lists++
				}
			}
		}
		level = next
	}
	if texts < 50000 || lists < 20000 || lists >= texts {
		t.Errorf("got %d texts, %d lists", texts, lists)
	}
}

// P11.1 (W2), P11.2: each byte of a length, changed to each other one.
func TestLengthsChanged(t *testing.T) {
	for _, n := range []int{0, 5, 63, 64, 300, 16383, 16384, 70000} {
		b := trial.Joined(plainText(some(n, 8)), some(300, 9))
		for at := range plainLength(n) {
			for bits := range 256 {
				wantToldText(t, trial.Changed(b, at, byte(bits)), 0)
			}
		}
	}
}
