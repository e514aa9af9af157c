package wire_test

import (
	"bytes"
	"math"
	"testing"

	"sodality/api"
	"sodality/trial"
	"sodality/wire"
)

func sizes() []int { return []int{1, 2, 4, 8} }

func noSizes() []int {
	return []int{0, 3, 5, 6, 7, 9, 10, 16, 64, -1, -2, -4, -8, 1<<32 + 1, 1<<32 + 8, 1<<61 + 1, math.MinInt, math.MinInt + 8, math.MaxInt, math.MaxInt - 1}
}

// greatest is the greatest number that fits.
func greatest(size int) int64 {
	return map[int]int64{1: 255, 2: 65535, 4: 4294967295, 8: 9223372036854775807}[size]
}

// P11.1 (W1): numbers that are told by hand.
func TestNumbersByHand(t *testing.T) {
	for _, x := range []struct {
		n    int64
		size int
		want []byte
	}{
		{0, 1, []byte{0}},
		{1, 1, []byte{1}},
		{255, 1, []byte{255}},
		{256, 1, nil},
		{0, 2, []byte{0, 0}},
		{1, 2, []byte{0, 1}},
		{256, 2, []byte{1, 0}},
		{258, 2, []byte{1, 2}},
		{65535, 2, []byte{255, 255}},
		{65536, 2, nil},
		{0, 4, []byte{0, 0, 0, 0}},
		{16909060, 4, []byte{1, 2, 3, 4}},
		{2147483648, 4, []byte{128, 0, 0, 0}},
		{4294967295, 4, []byte{255, 255, 255, 255}},
		{4294967296, 4, nil},
		{0, 8, []byte{0, 0, 0, 0, 0, 0, 0, 0}},
		{72623859790382856, 8, []byte{1, 2, 3, 4, 5, 6, 7, 8}},
		{math.MaxInt64, 8, []byte{127, 255, 255, 255, 255, 255, 255, 255}},
		{-1, 8, nil},
		{math.MinInt64, 8, nil},
	} {
		trial.WantBytes(t, "Number", wire.Number(x.n, x.size), x.want)
		if x.want == nil {
			continue
		}
		for _, p := range around(x.want) {
			n, behind, err := wire.GetNumber(p.all, p.at, x.size)
			trial.WantErr(t, "GetNumber", err, api.OK)
			wantPlace(t, "GetNumber", behind, p.at+x.size)
			if n != x.n {
				t.Errorf("GetNumber of %x: got %d", x.want, n)
			}
		}
	}
}

// P11.1 (W1): of each size, 0, the greatest that fits, one more, below 0, and the least and the greatest of all.
func TestNumbersAtTheEdges(t *testing.T) {
	for _, size := range sizes() {
		most := greatest(size)
		for _, n := range []int64{0, 1, 127, 128, 255, most/2 - 1, most / 2, most/2 + 1, most - 1, most} {
			b := wire.Number(n, size)
			if len(b) != size {
				t.Fatalf("Number(%d, %d): got %d bytes", n, size, len(b))
			}
			wantToldNumber(t, b, 0, size)
		}
		none := []int64{-1, -2, -128, -256, -most, math.MinInt64, math.MinInt64 + 1, math.MinInt64 + most}
		if size < 8 {
			none = append(none, most+1, most+2, 2*most+1, 2*most+2, 1<<(8*size)*3, 1<<62, math.MaxInt64, math.MaxInt64-most)
		}
		for _, n := range none {
			trial.WantBytes(t, "Number of one that does not fit", wire.Number(n, size), nil)
		}
	}
}

// P11.1 (W1): sizes that are none.
func TestNumbersOfNoSize(t *testing.T) {
	for _, size := range noSizes() {
		for _, n := range []int64{0, 1, 255, -1, math.MaxInt64, math.MinInt64} {
			trial.WantBytes(t, "Number of no size", wire.Number(n, size), nil)
		}
		for _, b := range append(empties(), make([]byte, 64), bytes.Repeat([]byte{255}, 64)) {
			wantNoNumber(t, b, 0, size, api.ErrArg)
			wantNoNumber(t, b, len(b), size, api.ErrArg)
		}
	}
}

// P11.1 (W1), P11.2: all numbers of one byte and of two.
func TestAllShortNumbers(t *testing.T) {
	for n := range int64(70000) {
		for _, size := range sizes() {
			b := wire.Number(n, size)
			trial.WantBytes(t, "Number", b, plainNumber(n, size))
			if is := n <= greatest(size); (b != nil) != is || is && !wantToldNumber(t, b, 0, size) {
				t.Fatalf("%d, %d bytes: got %x", n, size, b)
			}
		}
	}
}

// P11.1 (W1), P11.2: numbers that stand anywhere, one behind the other, of sizes that change.
func TestNumbersOneBehindTheOther(t *testing.T) {
	var b []byte
	var all []int64
	for i, v := range trial.Wild(1) {
		size := sizes()[i%4]
		n := int64(v) & greatest(size)
		all, b = append(all, n), append(b, wire.Number(n, size)...)
	}
	at := 0
	for i, want := range all {
		wantToldNumber(t, b, at, sizes()[i%4])
		n, behind, err := wire.GetNumber(b, at, sizes()[i%4])
		if n != want || err != api.OK {
			t.Fatalf("number %d: got %d, %d, want %d", i, n, err, want)
		}
		at = behind
	}
	wantPlace(t, "behind all", at, len(b))
}

// P11.1 (W1), P11.2: each place of ordinary bytes.
func TestNumbersOfOrdinaryBytes(t *testing.T) {
	b := trial.Ordinary(5000, 2)
	got := 0
	for at := -9; at <= len(b)+9; at++ {
		for _, size := range sizes() {
			if wantToldNumber(t, b, at, size) {
				got++
			}
		}
	}
	if got < 17000 {
		t.Errorf("got %d numbers", got)
	}
}

// P11.1 (W1): at the end of the bytes, and with too few.
func TestNumbersThatEndTooEarly(t *testing.T) {
	for _, size := range sizes() {
		for few := range size {
			for _, v := range []byte{0, 127, 128, 255} {
				b := bytes.Repeat([]byte{v}, few)
				wantNoNumber(t, b, 0, size, api.ErrEnd)
				ahead := trial.Joined(make([]byte, 20), b)
				wantNoNumber(t, ahead, 20, size, api.ErrEnd)
				wantNoNumber(t, ahead[:20+few:20+few], 20, size, api.ErrEnd)
				wantNoNumber(t, append(ahead, 1, 2, 3, 4, 5, 6, 7, 8)[:20+few], 20, size, api.ErrEnd) // spare room is no bytes
			}
		}
		for _, b := range empties() {
			wantNoNumber(t, b, 0, size, api.ErrEnd)
		}
	}
}

// P11.1 (W1): of eight bytes above 2^63 - 1.
func TestNumbersTooGreat(t *testing.T) {
	for first := 128; first < 256; first++ {
		for _, rest := range []byte{0, 1, 127, 128, 255} {
			b := append([]byte{byte(first)}, bytes.Repeat([]byte{rest}, 7)...)
			wantNoNumber(t, b, 0, 8, api.ErrLong)
			wantNoNumber(t, trial.Joined([]byte{0}, b, []byte{0}), 1, 8, api.ErrLong)
			wantToldNumber(t, b, 0, 4)
		}
	}
	if n, behind, err := wire.GetNumber([]byte{127, 255, 255, 255, 255, 255, 255, 255}, 0, 8); n != math.MaxInt64 || behind != 8 || err != api.OK {
		t.Errorf("2^63 - 1: got %d, %d, %d", n, behind, err)
	}
}

// P11.1 (W1): places that are none, and the least and the greatest that are.
func TestPlacesOfNumbers(t *testing.T) {
	for _, b := range append(empties(), []byte{7}, make([]byte, 8), bytes.Repeat([]byte{255}, 20)) {
		for _, size := range sizes() {
			for _, at := range noPlaces(len(b)) {
				wantNoNumber(t, b, at, size, api.ErrArg)
			}
			wantNoNumber(t, b, len(b), size, api.ErrEnd)
		}
	}
	for _, size := range sizes() {
		b := make([]byte, 2*size)
		for at := range size + 1 {
			if n, behind, err := wire.GetNumber(b, at, size); n != 0 || behind != at+size || err != api.OK {
				t.Errorf("at %d, %d bytes: got %d, %d, %d", at, size, n, behind, err)
			}
		}
	}
}

// P11.1 (W1), P2: a place or a size that is none comes first, then the end, then a number too great.
func TestSeveralErrorsOfNumbers(t *testing.T) {
	great := bytes.Repeat([]byte{255}, 8)
	for _, size := range noSizes() {
		for _, at := range append(noPlaces(8), 0, 1, 7, 8) {
			wantNoNumber(t, great, at, size, api.ErrArg)
		}
	}
	for _, at := range noPlaces(8) {
		wantNoNumber(t, great, at, 8, api.ErrArg)
	}
	for at := 1; at <= 8; at++ {
		wantNoNumber(t, great, at, 8, api.ErrEnd)
	}
	wantNoNumber(t, great, 0, 8, api.ErrLong)
}
