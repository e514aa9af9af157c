package wire_test

import (
	"bytes"
	"slices"
	"testing"

	"sodality/api"
	"sodality/trial"
	"sodality/wire"
)

// many are so many texts of so many bytes each.
func many(count, n int) [][]byte { return slices.Repeat([][]byte{make([]byte, n)}, count) }

// P11.1 (W3): lists that are told by hand.
func TestListsByHand(t *testing.T) {
	for _, x := range []struct {
		l    [][]byte
		want []byte
	}{
		{nil, []byte{0}},
		{[][]byte{}, []byte{0}},
		{[][]byte{nil}, []byte{1, 0}},
		{[][]byte{{}}, []byte{1, 0}},
		{[][]byte{nil, nil}, []byte{2, 0, 0}},
		{[][]byte{{'a'}}, []byte{2, 1, 'a'}},
		{[][]byte{{'a'}, nil}, []byte{3, 1, 'a', 0}},
		{[][]byte{nil, {'a'}}, []byte{3, 0, 1, 'a'}},
		{[][]byte{{'a', 'b'}}, []byte{3, 2, 'a', 'b'}},
		{[][]byte{{'a'}, {'b'}}, []byte{4, 1, 'a', 1, 'b'}},
		{[][]byte{{255, 255}, {0}, {64}}, []byte{7, 2, 255, 255, 1, 0, 1, 64}},
		{many(1, 62), trial.Joined([]byte{63, 62}, make([]byte, 62))},
		{many(1, 63), trial.Joined([]byte{64, 64, 63}, make([]byte, 63))},
		{many(1, 64), trial.Joined([]byte{64, 66, 64, 64}, make([]byte, 64))},
		{many(63, 0), trial.Joined([]byte{63}, make([]byte, 63))},
		{many(64, 0), trial.Joined([]byte{64, 64}, make([]byte, 64))},
		{many(16383, 0), trial.Joined([]byte{127, 255}, make([]byte, 16383))},
		{many(16384, 0), trial.Joined([]byte{128, 0, 64, 0}, make([]byte, 16384))},
	} {
		trial.WantBytes(t, "List", wantList(t, x.l), x.want)
	}
}

// P11.1 (W3), P11.2: ordinary lists, of texts of each length against each other.
func TestListsThereAndBack(t *testing.T) {
	all := slices.DeleteFunc(edges(), func(n int) bool { return n > 1000 })
	var l [][]byte
	for i, n := range all {
		for j, m := range all {
			wantList(t, [][]byte{some(n, i), some(m, j)})
			wantList(t, [][]byte{some(n, i), nil, some(m, j), nil})
		}
		l = append(l, some(n, i))
		wantList(t, l)
	}
	for _, n := range edges() {
		if n < maxText-4 {
			wantList(t, [][]byte{some(n, 1)})
		}
	}
}

// P11.1 (W3): as many bytes as may be, with their lengths, and one more.
func TestListsAsLongAsMayBe(t *testing.T) {
	for _, x := range []struct {
		name string
		l    [][]byte
	}{
		{"one text", [][]byte{some(maxText-4, 1)}},
		{"empty texts", many(maxText, 0)},
		{"texts of one byte", many(maxText/2, 1)},
		{"a text, and an empty one", [][]byte{some(maxText-5, 1), nil}},
		{"an empty one, and a text", [][]byte{nil, some(maxText-5, 1)}},
		{"two halves", [][]byte{some(maxText/2-4, 1), some(maxText/2-4, 2)}},
		{"texts of 63, whose length has two bytes if they are longer", many(maxText/64, 63)},
	} {
		t.Run(x.name, func(t *testing.T) {
			if n := len(plainTexts(x.l)); n != maxText {
				t.Fatalf("%d bytes", n)
			}
			b, err := wire.List(x.l)
			trial.WantErr(t, "List", err, api.OK)
			trial.WantBytes(t, "List", b, plainList(x.l))
			got, behind, err := wire.GetList(trial.Joined([]byte{255}, b, []byte{255}), 1)
			trial.WantErr(t, "GetList", err, api.OK)
			wantTexts(t, got, x.l)
			wantPlace(t, "GetList", behind, 1+len(b))
			last := len(x.l) - 1
			longer := append(slices.Clone(x.l[:last]), trial.Joined(x.l[last], []byte{0}))
			for _, l := range [][][]byte{append(slices.Clone(x.l), nil), append([][]byte{nil}, x.l...), longer} {
				if n := len(plainTexts(l)); n <= maxText {
					t.Fatalf("more: %d bytes", n)
				}
				wantNotWritten(t, l)
				wantNone(t, plainList(l), 0, api.ErrTooMany)
			}
		})
	}
}

func wantNotWritten(t *testing.T, l [][]byte) {
	t.Helper()
	b, err := wire.List(l)
	trial.WantErr(t, "List", err, api.ErrTooMany)
	trial.WantBytes(t, "List", b, nil)
}

// P11.1 (W3): lists with a text that is too long, and lists of far too much.
func TestListsTooLong(t *testing.T) {
	great, greater := make([]byte, maxText), make([]byte, maxText+1)
	for _, s := range [][]byte{great, greater, make([]byte, maxText-1), make([]byte, maxText-2), make([]byte, maxText-3), make([]byte, 2*maxText)} {
		wantNotWritten(t, [][]byte{s})
		wantNotWritten(t, [][]byte{s, nil})
		wantNotWritten(t, [][]byte{nil, {1, 2, 3}, s})
		wantNotWritten(t, [][]byte{s, s})
		wantNotWritten(t, [][]byte{{1}, s, greater})
	}
	wantNotWritten(t, many(2, maxText/2))
	wantNotWritten(t, many(300, maxText/2))
	wantNotWritten(t, append(many(maxText+1, 0), greater))
}

// listOf is whatever bytes with their length ahead, as if they were texts.
func listOf(b ...byte) []byte { return plainText(b) }

// P11.1 (W3): what the list's own length says, as of a text.
func TestListsWithAWrongLength(t *testing.T) {
	for _, x := range []struct {
		b    []byte
		want api.Errno
	}{
		{nil, api.ErrEnd},
		{[]byte{64}, api.ErrEnd},
		{[]byte{128, 0, 64}, api.ErrEnd},
		{[]byte{64, 2, 1, 'a'}, api.ErrLong},
		{[]byte{128, 0, 0, 2, 1, 'a'}, api.ErrLong},
		{[]byte{192, 0}, api.ErrLong},
		{[]byte{255}, api.ErrLong},
		{[]byte{128, 16, 0, 1}, api.ErrTooMany},
		{[]byte{191, 255, 255, 255, 0}, api.ErrTooMany},
		{[]byte{1}, api.ErrEnd},
		{[]byte{3, 1, 'a'}, api.ErrEnd},
		{[]byte{3, 0, 0}, api.ErrEnd},
	} {
		wantNoList(t, x.b, 0, x.want)
		wantNoList(t, trial.Joined([]byte{0}, x.b), 1, x.want)
	}
}

// P11.1 (W3), P2: the error of the first text that has one, read within the list's bytes, whatever stands behind these.
func TestListsWithAWrongText(t *testing.T) {
	for _, x := range []struct {
		name string
		b    []byte
		want api.Errno
	}{
		{"a text that goes on beyond the end", listOf(2, 'a'), api.ErrEnd},
		{"by far", listOf(63, 'a'), api.ErrEnd},
		{"the last text does", listOf(1, 'a', 0, 1), api.ErrEnd},
		{"a text of two bytes of length does", listOf(64, 64, 'a'), api.ErrEnd},
		{"a length's bytes do", listOf(64), api.ErrEnd},
		{"four of them do", listOf(0, 128, 0, 64), api.ErrEnd},
		{"a length that one byte would tell", listOf(64, 1, 'a'), api.ErrLong},
		{"a length that two bytes would tell", listOf(128, 0, 0, 64), api.ErrLong},
		{"a byte that begins none", listOf(192), api.ErrLong},
		{"behind a good text", listOf(1, 'a', 255), api.ErrLong},
		{"a text too long", listOf(128, 16, 0, 1), api.ErrTooMany},
		{"behind good texts", listOf(0, 1, 'a', 128, 16, 0, 1), api.ErrTooMany},
		{"no length, then too long", listOf(64, 1, 128, 16, 0, 1), api.ErrLong},
		{"no length, then an end too early", listOf(192, 5), api.ErrLong},
		{"too long, then no length", listOf(128, 16, 0, 1, 192), api.ErrTooMany},
		{"too long, then an end too early", listOf(191, 255, 255, 255, 5), api.ErrTooMany},
		{"beyond the end, over what would be no length", listOf(5, 192, 192), api.ErrEnd},
		{"beyond the end, over what would be too long", listOf(9, 128, 16, 0, 1), api.ErrEnd},
		{"good texts that look like errors, then no length", listOf(1, 192, 2, 64, 1, 4, 128, 16, 0, 1, 255), api.ErrLong},
	} {
		t.Run(x.name, func(t *testing.T) {
			for _, p := range around(x.b) {
				wantNoList(t, p.all, p.at, x.want)
				wantToldText(t, p.all, p.at)
			}
			wantNoList(t, trial.Joined(x.b, make([]byte, 70000)), 0, x.want)
			wantNoList(t, trial.Joined(x.b, make([]byte, 70000))[:len(x.b)], 0, x.want)
		})
	}
	for _, at := range noPlaces(2) {
		wantNoList(t, listOf(192), at, api.ErrArg)
	}
}

// P11.1 (W3), P2: the list's own error comes ahead of its texts'.
func TestSeveralErrorsOfLists(t *testing.T) {
	wantNoList(t, []byte{3, 192, 192}, 0, api.ErrEnd)
	wantNoList(t, []byte{64, 1, 255}, 0, api.ErrLong)
	wantNoList(t, []byte{64, 1, 1}, 0, api.ErrLong)
	wantNoList(t, trial.Joined([]byte{128, 16, 0, 1}, bytes.Repeat([]byte{255}, maxText+1)), 0, api.ErrTooMany)
	wantNoList(t, trial.Joined([]byte{128, 16, 0, 0}, bytes.Repeat([]byte{255}, maxText-1)), 0, api.ErrEnd)
	wantNoList(t, trial.Joined([]byte{128, 16, 0, 0}, bytes.Repeat([]byte{255}, maxText)), 0, api.ErrLong)
	wantNoList(t, trial.Joined([]byte{128, 16, 0, 0}, make([]byte, maxText-1), []byte{1, 'a'}), 0, api.ErrEnd)
}

// P11.2: lists within lists.
func TestListsWithinLists(t *testing.T) {
	inner := [][]byte{{'a'}, nil, some(100, 1)}
	for deep := range 20 {
		b := wantList(t, inner)
		outer := [][]byte{b, {byte(deep)}, b}
		got, _, err := wire.GetList(wantList(t, outer), 0)
		trial.WantErr(t, "GetList", err, api.OK)
		wantTexts(t, got, outer)
		again, behind, err := wire.GetList(got[2], 0)
		trial.WantErr(t, "GetList of what stands within", err, api.OK)
		wantTexts(t, again, inner)
		wantPlace(t, "GetList of what stands within", behind, len(b))
		inner = [][]byte{b, {byte(deep)}}
	}
	one := []byte(nil)
	for range 1000 {
		one = wantShortList(t, one)
	}
	for range 1000 {
		l, behind, err := wire.GetList(one, 0)
		if len(l) != 1 || behind != len(one) || err != api.OK {
			t.Fatalf("got %d texts, %d, %d", len(l), behind, err)
		}
		one = l[0]
	}
	trial.WantBytes(t, "the innermost", one, nil)
}

// wantShortList is a list of one text.
func wantShortList(t *testing.T, s []byte) []byte {
	t.Helper()
	b, err := wire.List([][]byte{s})
	trial.WantErr(t, "List", err, api.OK)
	trial.WantBytes(t, "List", b, plainList([][]byte{s}))
	return b
}

// P11.1 (W3), P11.2: bytes that often are lists, read at each place, and with each byte changed.
func TestListsChanged(t *testing.T) {
	b := plainList([][]byte{some(3, 1), nil, plainList([][]byte{{1}, {2}}), some(70, 2), plainList(many(5, 0)), {64, 64}})
	for at := range b {
		wantToldList(t, b, at)
		for bits := range 256 {
			c := trial.Changed(b, at, byte(bits))
			wantToldList(t, c, 0)
			wantToldList(t, trial.Joined([]byte{255}, c, some(200, 3)), 1)
		}
	}
}

// P11.1 (W3), P11.3: a list that is cut is none.
func TestListsThatEndTooEarly(t *testing.T) {
	for _, l := range [][][]byte{nil, {nil}, {{'a'}, nil}, many(63, 0), many(64, 0), many(16384, 0), {some(63, 1), some(64, 2)}, {some(17000, 3), {1}}} {
		b := plainList(l)
		for cut := range b {
			wantNoList(t, b[:cut], 0, api.ErrEnd)
			wantNoList(t, b[:cut:cut], 0, api.ErrEnd)
		}
	}
}
