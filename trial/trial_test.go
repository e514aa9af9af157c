package trial_test

import (
	"bytes"
	"testing"

	"sodality/api"
	"sodality/trial"
)

// heard is a test that ends with its first fault.
type heard struct{}

type fault struct{}

func (heard) Helper() {}

func (heard) Fatalf(string, ...any) { panic(fault{}) }

// found: does a want tell a fault?
func found(want func(t trial.T)) (is bool) {
	defer func() {
		if r := recover(); r != nil {
			_, is = r.(fault)
			if !is {
				panic(r)
			}
		}
	}()
	want(heard{})
	return false
}

func TestBytesToTry(t *testing.T) {
	if a, b := trial.Ordinary(40, 1), trial.Ordinary(40, 257); len(a) != 40 || bytes.Equal(a, b) {
		t.Error("of unlike numbers: alike")
	}
	if s := trial.Seeds(32, 3); len(s) != 5 || s[0][31] != 0 || s[1][0] != 255 || bytes.Equal(s[2], s[3]) {
		t.Errorf("seeds: %x", s)
	}
	for _, n := range []int{0, 1, 2, 32, 2000} {
		for _, m := range trial.Around(n) {
			if m < 0 || m == n {
				t.Errorf("%d is among those around %d", m, n)
			}
		}
	}
	if b := trial.Counted(258); len(b) != 258 || b[0] != 0 || b[1] != 1 || b[255] != 255 || b[257] != 1 {
		t.Errorf("counted: %x", b)
	}
	b := []byte{1, 2, 3}
	if c := trial.Changed(b, 1, 5); !bytes.Equal(c, []byte{1, 7, 3}) || b[1] != 2 {
		t.Errorf("changed: %x of %x", c, b)
	}
}

func TestWants(t *testing.T) {
	for _, x := range []struct {
		got, want []byte
		found     bool
	}{{nil, []byte{}, false}, {[]byte{1}, []byte{1}, false}, {[]byte{1}, []byte{2}, true}, {[]byte{1}, nil, true}, {[]byte{1}, []byte{1, 0}, true}} {
		if found(func(h trial.T) { trial.WantBytes(h, "", x.got, x.want) }) != x.found {
			t.Errorf("%x, want %x: a fault is %v", x.got, x.want, !x.found)
		}
	}
	if found(func(h trial.T) { trial.WantErr(h, "", api.ErrArg, api.ErrArg) }) || !found(func(h trial.T) { trial.WantErr(h, "", api.OK, api.ErrArg) }) {
		t.Error("errors are not told apart")
	}
}

func TestWrittenOut(t *testing.T) {
	b := []byte{0, 9, 10, 159, 255}
	if found(func(h trial.T) { trial.WantHex(h, "", b, "00090a9fff") }) || found(func(h trial.T) { trial.WantHex(h, "", nil, "") }) {
		t.Error("bytes are not as they are written out")
	}
	for _, want := range []string{"", "00090a9f", "00090a9fff00", "00090a9ffe", "10090a9fff", "00090A9FFF"} {
		if !found(func(h trial.T) { trial.WantHex(h, "", b, want) }) {
			t.Errorf("%x is taken for %s", b, want)
		}
	}
}

// Calls that keep P3 have no fault; each of the others breaks it in a way of its own.
func TestCalls(t *testing.T) {
	var kept []byte
	asked := byte(0)
	of := func(do func(b []byte) [][]byte) trial.Calls {
		return trial.Calls{{Take: [][]byte{{1, 2, 3}}, Do: func(take [][]byte) [][]byte { return do(take[0]) }}}
	}
	good := func(b []byte) [][]byte { return [][]byte{bytes.Clone(b), bytes.Clone(b)} }
	for _, x := range []struct {
		name      string
		do        func(b []byte) [][]byte
		lent, new bool
	}{
		{"good", good, false, false},
		{"changes what it is handed", func(b []byte) [][]byte { b[0]++; return good([]byte{1}) }, true, false},
		{"changes spare room", func(b []byte) [][]byte { return good(append(b, 1)) }, true, false},
		{"answers what it is handed", func(b []byte) [][]byte { return [][]byte{b} }, true, true},
		{"answers one list twice", func(b []byte) [][]byte { c := bytes.Clone(b); return [][]byte{c, c} }, false, true},
		{"answers lists that stand side by side", func(b []byte) [][]byte { c := bytes.Clone(b); return [][]byte{c[:1], c[1:]} }, false, true},
		{"answers what it keeps", func(b []byte) [][]byte { kept = append(kept[:0], b...); return [][]byte{kept} }, false, true},
		{"counts", func(b []byte) [][]byte { asked++; return [][]byte{{asked}} }, false, true},
	} {
		if found(of(x.do).WantLent) != x.lent {
			t.Errorf("one that %s: a fault with what is handed in is %v", x.name, !x.lent)
		}
		if found(of(x.do).WantNew) != x.new {
			t.Errorf("one that %s: a fault with what comes out is %v", x.name, !x.new)
		}
	}
}

// A call may do wrong with one list alone, and only when another one is too short.
func TestCallsWithOneShortList(t *testing.T) {
	bad := func(take [][]byte) [][]byte {
		if len(take[0]) == 2 && len(take[1]) == 3 {
			take[1][0]++
		}
		return nil
	}
	calls := trial.Calls{{Take: [][]byte{{1, 2, 3}, {4, 5, 6}}, Do: bad}}
	if !found(calls.WantLent) {
		t.Error("the fault is not found")
	}
}

func TestTruth(t *testing.T) {
	if bytes.Equal(trial.Truth(true)[0], trial.Truth(false)[0]) {
		t.Error("alike")
	}
}
