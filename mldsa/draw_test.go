package mldsa

import (
	"bytes"
	"iter"
	"slices"
	"testing"

	"sodality/api"
	"sodality/keccak"
)

// Nobody knows a seed whose bytes are too few, so what stands here looks inside: at what is told of a seed, and at what is made of what was told.

// among is so many numbers that are below the end, each with two beside it that are not.
func among(good, end int) iter.Seq[int] {
	return func(yield func(int) bool) {
		for i := range good {
			if !yield(end) || !yield(i%end) || !yield(end+i) {
				return
			}
		}
	}
}

func wantNone(t *testing.T, what string, p api.Poly, err, want api.Errno) {
	t.Helper()
	if err != want || p != (api.Poly{}) {
		t.Errorf("%s: got error %d and %v", what, err, p)
	}
}

// P10.1 (G1, G2): from 256 numbers on there is a polynomial, whatever stands between them; of 255 there is none.
func TestDrawn(t *testing.T) {
	for _, end := range []int{9, 300, 8380417} {
		for _, good := range []int{256, 257, 672} {
			p, err := drawn(among(good, end), end, lessThan(4))
			for i, n := range p {
				if n != 4-i%end || err != api.OK {
					t.Fatalf("%d good ones: got %d at %d, error %d", good, n, i, err)
				}
			}
		}
		for _, good := range []int{0, 1, 255} {
			p, err := drawn(among(good, end), end, lessThan(4))
			wantNone(t, "too few", p, err, api.ErrDraw)
		}
	}
}

// P10.1 (G1, G2, G3): a seed's bytes are those of SHAKE, so many and no more.
func TestGiven(t *testing.T) {
	for _, seed := range [][]byte{nil, make([]byte, 34), bytes.Repeat([]byte{255}, 66)} {
		for _, x := range []struct {
			name string
			all  iter.Seq[int]
			want []byte
		}{
			{"2016 of SHAKE128", given(rateShake128, placeBlocks, seed), keccak.Shake128(seed, 2016)},
			{"1360 of SHAKE256", given(rateShake256, smallBlocks, seed), keccak.Shake256(seed, 1360)},
			{"1088 of SHAKE256", given(rateShake256, ballBlocks, seed), keccak.Shake256(seed, 1088)},
		} {
			for range 2 {
				if got := slices.Collect(x.all); !slices.Equal(got, numbersOf(x.want)) {
					t.Errorf("%s: got %d bytes", x.name, len(got))
				}
			}
		}
	}
}

func numbersOf(b []byte) []int {
	var out []int
	for _, v := range b {
		out = append(out, int(v))
	}
	return out
}

// P10.1 (G1, G2): candidates at their edges; fewer than three bytes are none.
func TestCandidates(t *testing.T) {
	for _, x := range []struct {
		b             []byte
		three, halves []int
	}{
		{nil, nil, nil},
		{[]byte{0x21}, nil, []int{1, 2}},
		{[]byte{1, 2}, nil, []int{1, 0, 2, 0}},
		{[]byte{1, 2, 3}, []int{0x030201}, []int{1, 0, 2, 0, 3, 0}},
		{[]byte{0, 0xe0, 0x7f}, []int{8380416}, []int{0, 0, 0, 14, 15, 7}},
		{[]byte{1, 0xe0, 0xff, 0xff}, []int{8380417}, []int{1, 0, 0, 14, 15, 15, 15, 15}},
		{[]byte{255, 255, 255, 0, 0, 0x80}, []int{0x7fffff, 0}, []int{15, 15, 15, 15, 15, 15, 0, 0, 0, 0, 0, 8}},
	} {
		all := slices.Values(numbersOf(x.b))
		if got := slices.Collect(threes(all)); !slices.Equal(got, x.three) {
			t.Errorf("threes of %x: got %x", x.b, got)
		}
		if got := slices.Collect(halves(all)); !slices.Equal(got, x.halves) {
			t.Errorf("halves of %x: got %x", x.b, got)
		}
	}
}

// Who asks for no more is told no more.
func TestCandidatesEnd(t *testing.T) {
	all := given(rateShake256, ballBlocks, nil)
	for _, told := range []iter.Seq[int]{all, threes(all), halves(all)} {
		for end := range 5 {
			many := 0
			for range told {
				if many++; many > end {
					break
				}
			}
			if many != end+1 {
				t.Errorf("%d were told, want %d", many, end+1)
			}
		}
	}
}

// to are the bytes of a ball whose numbers go to those places, one behind the other; each has one ahead of it that is too great, if there is one.
func to(signs [8]int, places ...int) iter.Seq[int] {
	return func(yield func(int) bool) {
		for _, b := range signs {
			if !yield(b) {
				return
			}
		}
		for k, place := range places {
			if i := 207 + k; i < 255 && !yield(i+1) || i < 254 && !yield(255) || !yield(place) {
				return
			}
		}
	}
}

// P10.1 (G3): a number goes where the next byte that is no more than i says, and what stood there goes to i.
func TestThrown(t *testing.T) {
	stay := make([]int, 49)
	for k := range stay {
		stay[k] = 207 + k
	}
	signs := [8]int{0b00000101, 0, 0x80, 0, 0, 0, 1}
	p, err := thrown(to(signs, stay...))
	var want api.Poly
	for i := 207; i < 256; i++ {
		want[i] = 1
	}
	want[207], want[209], want[207+23], want[207+48] = -1, -1, -1, -1
	if err != api.OK || p != want {
		t.Errorf("where they are: got error %d and %v", err, p)
	}

	p, err = thrown(to(signs, make([]int, 49)...)) // each but the first sends the one ahead of it from 0 to where it is
	want = api.Poly{-1}
	for i := 208; i < 256; i++ {
		want[i] = 1
	}
	want[208], want[210], want[207+24] = -1, -1, -1
	if err != api.OK || p != want {
		t.Errorf("to 0: got error %d and %v", err, p)
	}
}

// P10.1 (G3): 49 bytes that are no more than i are enough, 48 are not.
func TestThrownOfTooFew(t *testing.T) {
	for many := range 49 {
		p, err := thrown(to([8]int{}, make([]int, many)...))
		wantNone(t, "too few", p, err, api.ErrDraw)
	}
	p, err := thrown(slices.Values(slices.Repeat([]int{255}, 1088)))
	wantNone(t, "all too great", p, err, api.ErrDraw)
	p, err = thrown(slices.Values(make([]int, 7)))
	wantNone(t, "not even signs", p, err, api.ErrDraw)
	p, err = thrown(slices.Values(make([]int, 56)))
	wantNone(t, "signs and 48 bytes", p, err, api.ErrDraw)
	if _, err = thrown(slices.Values(make([]int, 57))); err != api.OK {
		t.Errorf("signs and 49 bytes: got error %d", err)
	}
}

// P10.1 (G4, G5): if one is none, there is nothing at all.
func TestDrawnAll(t *testing.T) {
	for bad := range 8 {
		draw := func(i int) (api.Poly, api.Errno) {
			if i == bad {
				return api.Poly{}, api.ErrDraw
			}
			return api.Poly{i + 1}, api.OK
		}
		r, errOfRow := drawnAll[row](draw)
		c, errOfColumn := drawnAll[column](draw)
		if bad < 5 && (errOfRow != api.ErrDraw || r != row{}) || bad >= 5 && (errOfRow != api.OK || r[0][0] != 1 || r[4][0] != 5) {
			t.Errorf("a row without %d: got error %d", bad, errOfRow)
		}
		if bad < 6 && (errOfColumn != api.ErrDraw || c != column{}) || bad >= 6 && (errOfColumn != api.OK || c[0][0] != 1 || c[5][0] != 6) {
			t.Errorf("a column without %d: got error %d", bad, errOfColumn)
		}
	}
}

// P10.1 (G5): rounds are those from 0 to 813, up to the first that brings a signature, or an error.
func TestFirstMade(t *testing.T) {
	for _, x := range []struct {
		made, bad, rounds int
		want              api.Errno
	}{
		{0, -1, 1, api.OK},
		{1, -1, 2, api.OK},
		{812, -1, 813, api.OK},
		{813, -1, 814, api.OK},
		{814, -1, 814, api.ErrRetry},
		{-1, -1, 814, api.ErrRetry},
		{-1, 0, 1, api.ErrDraw},
		{814, 813, 814, api.ErrDraw},
		{814, 814, 814, api.ErrRetry},
		{5, 6, 6, api.OK},
	} {
		rounds := 0
		s, err := firstMade(func(n int) (api.Signature, bool, api.Errno) {
			if n != rounds {
				t.Fatalf("round %d is done as round %d", rounds, n)
			}
			rounds++
			if n == x.bad {
				return api.Signature{}, false, api.ErrDraw
			}
			return api.Signature{C: []byte{7}}, n == x.made, api.OK
		})
		if rounds != x.rounds || err != x.want || (s.C != nil) != (err == api.OK) {
			t.Errorf("%+v: got %d rounds, error %d, C %x", x, rounds, err, s.C)
		}
	}
}
