package wire_test

import (
	"bytes"
	"math"
	"slices"
	"testing"

	"sodality/api"
	"sodality/trial"
	"sodality/wire"
)

// wantToldNumber, wantToldText and wantToldList end a test if a call reads something else than is read in the other way, or if what is read is not written as it stood; they answer whether there was something.
func wantToldNumber(t *testing.T, b []byte, at, size int) bool {
	t.Helper()
	n, behind, err := wire.GetNumber(b, at, size)
	wantN, wantBehind, wantErr := plainGetNumber(b, at, size)
	if n != wantN || behind != wantBehind || err != wantErr {
		t.Fatalf("GetNumber(%d bytes %.40x, %d, %d): got %d, %d, %d, want %d, %d, %d", len(b), b, at, size, n, behind, err, wantN, wantBehind, wantErr)
	}
	if err == api.OK {
		trial.WantBytes(t, "a number that was read, written", wire.Number(n, size), b[at:behind])
	}
	return err == api.OK
}

func wantToldText(t *testing.T, b []byte, at int) bool {
	t.Helper()
	s, behind, err := wire.GetText(b, at)
	wantS, wantBehind, wantErr := plainGetText(b, at)
	if !bytes.Equal(s, wantS) || behind != wantBehind || err != wantErr {
		t.Fatalf("GetText(%d bytes %.40x, %d): got %d bytes, %d, %d, want %d bytes, %d, %d", len(b), b, at, len(s), behind, err, len(wantS), wantBehind, wantErr)
	}
	if err == api.OK {
		again, err := wire.Text(s)
		trial.WantErr(t, "Text", err, api.OK)
		trial.WantBytes(t, "a text that was read, written", again, b[at:behind])
	}
	return err == api.OK
}

func wantToldList(t *testing.T, b []byte, at int) bool {
	t.Helper()
	l, behind, err := wire.GetList(b, at)
	wantL, wantBehind, wantErr := plainGetList(b, at)
	if !slices.EqualFunc(l, wantL, bytes.Equal) || behind != wantBehind || err != wantErr {
		t.Fatalf("GetList(%d bytes %.40x, %d): got %d texts, %d, %d, want %d texts, %d, %d", len(b), b, at, len(l), behind, err, len(wantL), wantBehind, wantErr)
	}
	if err == api.OK {
		again, err := wire.List(l)
		trial.WantErr(t, "List", err, api.OK)
		trial.WantBytes(t, "a list that was read, written", again, b[at:behind])
	}
	return err == api.OK
}

// wantNoNumber, wantNoText and wantNoList end a test if a call answers another error, or something beside it.
func wantNoNumber(t *testing.T, b []byte, at, size int, want api.Errno) {
	t.Helper()
	if n, behind, err := wire.GetNumber(b, at, size); n != 0 || behind != 0 || err != want {
		t.Fatalf("GetNumber(%d bytes %.40x, %d, %d): got %d, %d, %d, want error %d", len(b), b, at, size, n, behind, err, want)
	}
}

func wantNoText(t *testing.T, b []byte, at int, want api.Errno) {
	t.Helper()
	if s, behind, err := wire.GetText(b, at); len(s) != 0 || behind != 0 || err != want {
		t.Fatalf("GetText(%d bytes %.40x, %d): got %d bytes, %d, %d, want error %d", len(b), b, at, len(s), behind, err, want)
	}
}

func wantNoList(t *testing.T, b []byte, at int, want api.Errno) {
	t.Helper()
	if l, behind, err := wire.GetList(b, at); len(l) != 0 || behind != 0 || err != want {
		t.Fatalf("GetList(%d bytes %.40x, %d): got %d texts, %d, %d, want error %d", len(b), b, at, len(l), behind, err, want)
	}
}

// wantNone: neither a text nor a list stands there.
func wantNone(t *testing.T, b []byte, at int, want api.Errno) {
	t.Helper()
	wantNoText(t, b, at, want)
	wantNoList(t, b, at, want)
}

// wantText is a text, written and read, ahead of other bytes and behind others; it answers its bytes.
func wantText(t *testing.T, s []byte) []byte {
	t.Helper()
	b, err := wire.Text(s)
	trial.WantErr(t, "Text", err, api.OK)
	trial.WantBytes(t, "Text", b, plainText(s))
	for _, x := range around(b) {
		got, behind, err := wire.GetText(x.all, x.at)
		trial.WantErr(t, "GetText", err, api.OK)
		trial.WantBytes(t, "GetText", got, s)
		wantPlace(t, "GetText", behind, x.at+len(b))
	}
	return b
}

// wantList is a list, likewise.
func wantList(t *testing.T, l [][]byte) []byte {
	t.Helper()
	b, err := wire.List(l)
	trial.WantErr(t, "List", err, api.OK)
	trial.WantBytes(t, "List", b, plainList(l))
	for _, x := range around(b) {
		got, behind, err := wire.GetList(x.all, x.at)
		trial.WantErr(t, "GetList", err, api.OK)
		wantTexts(t, got, l)
		wantPlace(t, "GetList", behind, x.at+len(b))
	}
	return b
}

func wantTexts(t *testing.T, got, want [][]byte) {
	t.Helper()
	if len(got) != len(want) {
		t.Fatalf("got %d texts, want %d", len(got), len(want))
	}
	for i := range want {
		trial.WantBytes(t, "a text of a list", got[i], want[i])
	}
}

func wantPlace(t *testing.T, what string, got, want int) {
	t.Helper()
	if got != want {
		t.Fatalf("%s: got the place %d, want %d", what, got, want)
	}
}

// put is bytes that stand at a place.
type put struct {
	all []byte
	at  int
}

// around has b alone, and with other bytes ahead and behind: such as begin lengths of all kinds, none, and such as end too early.
func around(b []byte) []put {
	out := []put{{b, 0}}
	for _, other := range [][]byte{{0}, {1}, {63}, {64}, {64, 64}, {128}, {128, 0, 64, 0}, {192}, {255, 255, 255, 255}, b, trial.Ordinary(100, 1)} {
		out = append(out,
			put{trial.Joined(other, b), len(other)},
			put{trial.Joined(b, other), 0},
			put{trial.Joined(other, b, other), len(other)},
		)
	}
	return out
}

// noPlaces are such as so many bytes do not have.
func noPlaces(n int) []int {
	return []int{-1, -2, -n - 1, n + 1, n + 2, 2*n + 8, math.MaxInt32, math.MaxInt, math.MaxInt - 1, math.MaxInt - 8, math.MinInt, math.MinInt + 1}
}

// empties have no bytes.
func empties() [][]byte { return [][]byte{nil, {}, make([]byte, 0, 16), make([]byte, 16)[8:8]} }
