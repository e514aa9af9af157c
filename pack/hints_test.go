package pack_test

import (
	"slices"
	"testing"

	"sodality/api"
	"sodality/pack"
	"sodality/trial"
)

// The hints' bytes of a signature begin here; the counts 55 bytes behind.
const hintsAt = 3248

// marked is a signature with ones at those places of each polynomial.
func marked(places ...[]int) things {
	x := ordinary(8)
	x.signature.H = [6]api.Poly{}
	for k, all := range places {
		for _, i := range all {
			x.signature.H[k][i] = 1
		}
	}
	return x
}

// upTo are the numbers from, and so many in all.
func upTo(from, many int) []int {
	var out []int
	for i := range many {
		out = append(out, from+i)
	}
	return out
}

// hintText is a signature's bytes that end in such places, then 0 up to 55, and such counts.
func hintText(places []byte, counts [6]byte) []byte {
	b := plainSignature(marked().signature)
	copy(b[hintsAt:], places)
	copy(b[hintsAt+55:], counts[:])
	return b
}

// P9.1 (F4): the chapter's example.
func TestSignatureOfNoughts(t *testing.T) {
	s, err := pack.GetSignature(make([]byte, 3309))
	trial.WantErr(t, "GetSignature", err, api.OK)
	trial.WantBytes(t, "C", s.C, make([]byte, 48))
	wantPolys(t, "Z", s.Z[:], slices.Repeat([]api.Poly{trial.All(524288)}, 5))
	wantPolys(t, "H", s.H[:], make([]api.Poly, 6))
	signatures().wantGot(t, make([]byte, 3309))
}

func wantPolys(t *testing.T, what string, got, want []api.Poly) {
	t.Helper()
	for k := range got {
		trial.WantPoly(t, what, got[k], want[k])
	}
}

// P9.1 (F4), P9.2: hints' bytes that are told by hand.
func TestHintsByHand(t *testing.T) {
	for _, x := range []struct {
		name   string
		hints  [][]int
		places []byte
		counts [6]byte
	}{
		{"none", nil, nil, [6]byte{}},
		{"the first place", [][]int{{0}}, []byte{0}, [6]byte{1, 1, 1, 1, 1, 1}},
		{"the last place", [][]int{{255}}, []byte{255}, [6]byte{1, 1, 1, 1, 1, 1}},
		{"both", [][]int{{0, 255}}, []byte{0, 255}, [6]byte{2, 2, 2, 2, 2, 2}},
		{"in the last polynomial", [][]int{5: {0, 255}}, []byte{0, 255}, [6]byte{0, 0, 0, 0, 0, 2}},
		{"the same place of two", [][]int{{7}, {7}}, []byte{7, 7}, [6]byte{1, 2, 2, 2, 2, 2}},
		{"the same place of the first and the last", [][]int{0: {7}, 5: {7}}, []byte{7, 7}, [6]byte{1, 1, 1, 1, 1, 2}},
		{"the same places of all", [][]int{{0}, {0}, {0}, {0}, {0}, {0}}, nil, [6]byte{1, 2, 3, 4, 5, 6}},
		{"places that fall from one to the next", [][]int{{200, 201}, {3, 100}, {}, {2}}, []byte{200, 201, 3, 100, 2}, [6]byte{2, 4, 4, 5, 5, 5}},
		{"places that rise from one to the next", [][]int{{1}, {2}, {3}, {4}, {5}, {6}}, []byte{1, 2, 3, 4, 5, 6}, [6]byte{1, 2, 3, 4, 5, 6}},
		{"54", [][]int{2: upTo(100, 54)}, upToBytes(100, 54), [6]byte{0, 0, 54, 54, 54, 54}},
		{"55 in the first", [][]int{upTo(0, 55)}, upToBytes(0, 55), [6]byte{55, 55, 55, 55, 55, 55}},
		{"55 in the last", [][]int{5: upTo(201, 55)}, upToBytes(201, 55), [6]byte{0, 0, 0, 0, 0, 55}},
		{"55 in two", [][]int{1: upTo(229, 27), 4: upTo(0, 28)}, append(upToBytes(229, 27), upToBytes(0, 28)...), [6]byte{0, 27, 27, 27, 55, 55}},
	} {
		t.Run(x.name, func(t *testing.T) {
			b := signatures().wantPut(t, marked(x.hints...))
			trial.WantBytes(t, "the bytes", b, hintText(x.places, x.counts))
			got := signatures().wantGot(t, hintText(x.places, x.counts))
			wantThings(t, "the signature", got, signatures().alone(marked(x.hints...)))
		})
	}
}

func upToBytes(from, many int) []byte {
	var out []byte
	for _, i := range upTo(from, many) {
		out = append(out, byte(i))
	}
	return out
}

// P9.1 (F4): each place of each polynomial, alone.
func TestHintAlone(t *testing.T) {
	for k := range 6 {
		for i := range 256 {
			x := noughts()
			x.signature.H[k][i] = 1
			b := signatures().wantPut(t, x)
			if b[hintsAt] != byte(i) {
				t.Fatalf("polynomial %d, place %d: %d", k, i, b[hintsAt])
			}
		}
	}
}

// P9.1 (F4): up to 55 ones there is a signature, from 56 on there is none, however they stand.
func TestTooManyHints(t *testing.T) {
	for many := range 6*256 + 1 {
		along, across := noughts(), noughts()
		for n := range many {
			along.signature.H[n/256][n%256] = 1
			across.signature.H[n%6][255-n/6] = 1
		}
		for _, x := range []things{along, across} {
			if many <= 55 {
				signatures().wantPut(t, x)
			} else {
				signatures().wantNotPut(t, "too many hints", x, api.ErrHint)
			}
		}
	}
	signatures().wantNotPut(t, "56 in the last", marked(nil, nil, nil, nil, nil, upTo(200, 56)), api.ErrHint)
	signatures().wantNotPut(t, "55, and one more behind", marked(upTo(0, 55), nil, nil, nil, nil, []int{0}), api.ErrHint)
	signatures().wantNotPut(t, "one ahead, and 55", marked([]int{255}, nil, nil, upTo(0, 55)), api.ErrHint)
}

// P9.1 (F4): what no hints' bytes are.
func TestNoHintsBytes(t *testing.T) {
	for _, x := range []struct {
		name   string
		places []byte
		counts [6]byte
	}{
		{"places that fall", []byte{9, 3}, [6]byte{2, 2, 2, 2, 2, 2}},
		{"places that fall by one", []byte{1, 0}, [6]byte{2, 2, 2, 2, 2, 2}},
		{"places that fall in the last polynomial", []byte{1, 255, 254}, [6]byte{1, 1, 1, 1, 1, 3}},
		{"places that fall at the end", append(upToBytes(1, 54), 0), [6]byte{0, 0, 0, 55, 55, 55}},
		{"a place twice", []byte{3, 3}, [6]byte{2, 2, 2, 2, 2, 2}},
		{"the first place twice", []byte{0, 0}, [6]byte{2, 2, 2, 2, 2, 2}},
		{"the last place twice", []byte{255, 255}, [6]byte{0, 0, 0, 0, 0, 2}},
		{"a place twice, not side by side", []byte{3, 4, 3}, [6]byte{3, 3, 3, 3, 3, 3}},
		{"a place twice at the end", append(upToBytes(1, 54), 54), [6]byte{55, 55, 55, 55, 55, 55}},
		{"all places 0", nil, [6]byte{55, 55, 55, 55, 55, 55}},
		{"counts that fall", []byte{1, 2}, [6]byte{2, 1, 2, 2, 2, 2}},
		{"counts that fall at the end", []byte{1, 2}, [6]byte{2, 2, 2, 2, 2, 1}},
		{"counts that fall to none", []byte{1}, [6]byte{1, 0, 1, 1, 1, 1}},
		{"counts that fall and stay there", []byte{1}, [6]byte{1}},
		{"counts that fall over places that rise", []byte{1, 2, 3, 4}, [6]byte{3, 2, 4, 4, 4, 4}},
		{"a count of 56", upToBytes(0, 55), [6]byte{55, 55, 55, 55, 55, 56}},
		{"counts of 56", upToBytes(0, 55), [6]byte{56, 56, 56, 56, 56, 56}},
		{"a count of 255", upToBytes(0, 55), [6]byte{55, 55, 55, 55, 55, 255}},
		{"counts of 255", upToBytes(0, 55), [6]byte{255, 255, 255, 255, 255, 255}},
		{"a count of 255 in between", upToBytes(0, 55), [6]byte{0, 255, 55, 55, 55, 55}},
		{"a count of 56, and none", nil, [6]byte{0, 0, 0, 0, 0, 56}},
		{"a count of 61, which would reach to the end", upToBytes(0, 55), [6]byte{0, 0, 0, 0, 0, 61}},
		{"a byte behind the last place", []byte{1, 2}, [6]byte{1, 1, 1, 1, 1, 1}},
		{"a byte and no places", []byte{1}, [6]byte{}},
		{"the last byte and no places", append(make([]byte, 54), 1), [6]byte{}},
		{"the last byte behind the last place", append(upToBytes(0, 54), 255), [6]byte{54, 54, 54, 54, 54, 54}},
		{"a byte far behind the last place", []byte{1, 0, 0, 0, 1}, [6]byte{1, 1, 1, 1, 1, 1}},
		{"all bytes 255", slices.Repeat([]byte{255}, 55), [6]byte{255, 255, 255, 255, 255, 255}},
	} {
		t.Run(x.name, func(t *testing.T) {
			signatures().wantNotGot(t, x.name, hintText(x.places, x.counts), api.ErrHint)
		})
	}
}

// areHints tells the chapter's words of 61 bytes, one by one.
func areHints(b []byte) bool {
	from := 0
	for _, count := range b[55:] {
		to := int(count)
		if to < from || to > 55 {
			return false
		}
		for i := from + 1; i < to; i++ {
			if b[i] <= b[i-1] {
				return false
			}
		}
		from = to
	}
	return slices.Max(append(slices.Clone(b[from:55]), 0)) == 0
}

// P9.1 (F4), P9.2: hints' bytes with each byte changed, to what stands beside it, and to something near and far, are got and put as they stood, or are none.
func TestHintsBytesChanged(t *testing.T) {
	for which, x := range []things{ordinary(9), noughts(), marked(upTo(3, 20), nil, upTo(0, 35)), marked([]int{5}, []int{5}, []int{5})} {
		b := plainSignature(x.signature)
		got := 0
		for at := hintsAt; at < 3309; at++ {
			before, behind := b[at-1], b[min(at+1, 3308)]
			for _, v := range []byte{b[at], b[at] + 1, b[at] - 1, before, before + 1, before - 1, behind, behind + 1, behind - 1, 0, 1, 54, 55, 56, 128, 255} {
				c := slices.Clone(b)
				c[at] = v
				if areHints(c[hintsAt:]) {
					got++
					signatures().wantGot(t, c)
				} else {
					signatures().wantNotGot(t, "a changed byte", c, api.ErrHint)
				}
			}
		}
		if got < 61 { // the bytes as they were, at least
			t.Errorf("%d: got %d", which, got)
		}
	}
}

// P9.1 (F4), P2: ErrArg is named ahead of ErrHint, and ErrBytes too.
func TestSeveralErrorsOfSignatures(t *testing.T) {
	many := marked(upTo(0, 256), upTo(0, 256), upTo(0, 256), upTo(0, 256), upTo(0, 256), upTo(0, 256))
	signatures().wantNotPut(t, "all hints", many, api.ErrHint)
	for _, f := range fields()[4:] {
		signatures().wantNotPut(t, "all hints, and Z outside", f.with(many, 4, 255, f.most+1), api.ErrArg)
	}
	signatures().wantNotPut(t, "too many hints, and one of 2", hints().with(many, 5, 255, 2), api.ErrArg)
	signatures().wantNotPut(t, "too many hints, and one of -1", hints().with(many, 0, 0, -1), api.ErrArg)
	short := many
	short.signature.C = make([]byte, 47)
	signatures().wantNotPut(t, "all hints, and C too short", short, api.ErrArg)
	bad := hintText(nil, [6]byte{0, 0, 0, 0, 0, 56})
	signatures().wantNotGot(t, "no hints' bytes", bad, api.ErrHint)
	signatures().wantNotGot(t, "no hints' bytes, too short", bad[1:], api.ErrBytes)
	signatures().wantNotGot(t, "no hints' bytes, too long", trial.Joined(bad, []byte{0}), api.ErrBytes)
}
