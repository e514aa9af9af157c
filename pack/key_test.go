package pack_test

import (
	"crypto/mldsa"
	"fmt"
	"math"
	"slices"
	"testing"

	"sodality/api"
	"sodality/trial"
)

// list is bytes that stand in one of a kind as they are: how many there must be, and from which byte on they are put.
type list struct {
	kind
	name    string
	n, from int
	of      func(x *things) *[]byte
}

func lists() []list {
	return []list{
		{publics(), "Rho", 32, 0, func(x *things) *[]byte { return &x.public.Rho }},
		{secrets(), "Rho", 32, 0, func(x *things) *[]byte { return &x.secret.Rho }},
		{secrets(), "Key", 32, 32, func(x *things) *[]byte { return &x.secret.Key }},
		{secrets(), "Tr", 64, 64, func(x *things) *[]byte { return &x.secret.Tr }},
		{signatures(), "C", 48, 0, func(x *things) *[]byte { return &x.signature.C }},
	}
}

// field is polynomials that stand in one of a kind: between which numbers, from which byte on they are put, with how many bits a number, and which number these are.
type field struct {
	kind
	name        string
	least, most int
	from, bits  int
	told        func(n int) int
	of          func(x *things) []api.Poly
}

func fields() []field {
	itself := func(n int) int { return n }
	small := func(n int) int { return 4 - n }
	return []field{
		{publics(), "T1", 0, 1023, 32, 10, itself, func(x *things) []api.Poly { return x.public.T1[:] }},
		{secrets(), "S1", -4, 4, 128, 4, small, func(x *things) []api.Poly { return x.secret.S1[:] }},
		{secrets(), "S2", -4, 4, 768, 4, small, func(x *things) []api.Poly { return x.secret.S2[:] }},
		{secrets(), "T0", -4095, 4096, 1536, 13, func(n int) int { return 4096 - n }, func(x *things) []api.Poly { return x.secret.T0[:] }},
		{signatures(), "Z", -524287, 524288, 48, 20, func(n int) int { return 524288 - n }, func(x *things) []api.Poly { return x.signature.Z[:] }},
	}
}

// hints are bounded like a field, but are put in another way.
func hints() field {
	return field{kind: signatures(), name: "H", least: 0, most: 1, of: func(x *things) []api.Poly { return x.signature.H[:] }}
}

// polyOf is polynomial k of a field, of bytes.
func (f field) polyOf(b []byte, k int) api.Poly {
	n := 32 * f.bits
	return plainUnpack(f.bits, b[f.from+k*n:f.from+(k+1)*n])
}

// with is x with that number in polynomial k, at i.
func (f field) with(x things, k, i, n int) things {
	f.of(&x)[k][i] = n
	return x
}

// P9.1 (F2 to F4), P9.2: ordinary keys and signatures, and such as have noughts alone.
func TestThereAndBack(t *testing.T) {
	for _, k := range kinds() {
		k.wantPut(t, noughts())
		for which := range 12 {
			k.wantPut(t, ordinary(which))
		}
	}
}

// P9.2: any bytes of a public key's length are one's; of a secret one's, if no four bits are above 8.
func TestGotOfAnyBytes(t *testing.T) {
	for _, b := range trial.Seeds(1952, 12) {
		x := publics().wantGot(t, b)
		trial.WantBytes(t, "told plainly", plainPublic(x.public), b)
	}
	for _, b := range trial.Seeds(4032, 12) {
		for i := range b[128:1536] {
			v := &b[128+i]
			*v = *v&15%9 + *v>>4%9<<4
		}
		x := secrets().wantGot(t, b)
		trial.WantBytes(t, "told plainly", plainSecret(x.secret), b)
	}
}

// P9.1 (F2, F4), P9.2: keys and signatures of the published standard, as the language's own ML-DSA makes them.
func TestPublishedStandard(t *testing.T) {
	for _, seed := range trial.Seeds(32, 8) {
		theirs, err := mldsa.NewPrivateKey(mldsa.MLDSA65(), seed)
		if err != nil {
			t.Fatal(err)
		}
		publics().wantPut(t, publics().wantGot(t, theirs.PublicKey().Bytes()))
		b, err := theirs.SignDeterministic(seed, &mldsa.Options{})
		if err != nil {
			t.Fatal(err)
		}
		x := signatures().wantGot(t, b)
		signatures().wantPut(t, x)
		for _, z := range x.signature.Z { // so a number is taken from 524288, and not another one
			if size := slices.Max([]int{slices.Max(z[:]), -slices.Min(z[:])}); size >= 524288-196 || size < 500000 {
				t.Errorf("the size of one of Z is %d", size)
			}
		}
	}
}

// P9.1 (F2 to F4): lists stand where they should, as they are; with another length there is nothing.
func TestLists(t *testing.T) {
	for _, l := range lists() {
		x := ordinary(1)
		b := l.wantPut(t, x)
		trial.WantBytes(t, l.name, b[l.from:l.from+l.n], *l.of(&x))
		for _, n := range trial.Around(l.n) {
			*l.of(&x) = trial.Ordinary(n, 3)
			l.wantNotPut(t, fmt.Sprint(l.name, " of ", n, " bytes"), x, api.ErrArg)
		}
		*l.of(&x) = nil
		l.wantNotPut(t, l.name+" of none", x, api.ErrArg)
	}
}

// P9.1 (F2 to F4): the bounds themselves may be, with numbers next to them, in the first, a middle and the last polynomial and place, alone and among others.
func TestNumbersAtTheBounds(t *testing.T) {
	for _, f := range fields() {
		x := ordinary(2)
		last := len(f.of(&x)) - 1
		for _, k := range []int{0, 1, last} {
			for _, i := range places {
				for _, n := range []int{f.least, f.least + 1, f.most - 1, f.most, 0, 1} {
					b := f.wantPut(t, f.with(x, k, i, n))
					if got := f.polyOf(b, k)[i]; got != f.told(n) {
						t.Fatalf("%s: %d is put as %d", f.name, n, got)
					}
					f.wantPut(t, f.with(noughts(), k, i, n))
				}
			}
		}
	}
}

// P9.1 (F2 to F4): all of a field may be at a bound.
func TestAllAtTheBounds(t *testing.T) {
	for _, f := range fields() {
		for _, n := range []int{f.least, f.most} {
			x := ordinary(3)
			for k := range f.of(&x) {
				f.of(&x)[k] = trial.All(n)
			}
			b := f.wantPut(t, x)
			for k := range f.of(&x) {
				trial.WantPoly(t, f.name, f.polyOf(b, k), trial.All(f.told(n)))
			}
		}
	}
}

// P9.1 (F2 to F4): one number outside is enough, wherever it stands, however far outside it is.
func TestNumbersOutside(t *testing.T) {
	for _, f := range append(fields(), hints()) {
		x := ordinary(4)
		for k := range f.of(&x) {
			for _, i := range places {
				for _, n := range []int{
					f.least - 1, f.least - 2, f.most + 1, f.most + 2, f.least - 1<<f.bits, f.most + 1<<f.bits, -1 << 20, 1 << 21,
					-1 << 31, 1 << 31, -1 << 32, 1 << 32, 1<<32 + 1, -1 << 62, 1 << 62, math.MinInt, math.MinInt + 1, math.MinInt + f.most, math.MaxInt, math.MaxInt - 1,
				} {
					what := fmt.Sprintf("%d in polynomial %d of %s, at %d", n, k, f.name, i)
					f.wantNotPut(t, what, f.with(x, k, i, n), api.ErrArg)
					f.wantNotPut(t, what, f.with(noughts(), k, i, n), api.ErrArg)
				}
			}
		}
	}
}

// P9.1 (F3): four bits of S1 or S2 that are from 9 to 15 are no secret key's, wherever they stand; up to 8 they are.
func TestSecretBytesWithNoSmallNumber(t *testing.T) {
	k := secrets()
	for _, start := range []things{ordinary(5), noughts()} {
		b := plainSecret(start.secret)
		for _, at := range []int{128, 129, 128 + 127, 256, 400, 767, 768, 769, 768 + 127, 1000, 1408, 1535} {
			for four := range 16 {
				low, high := slices.Clone(b), slices.Clone(b)
				low[at], high[at] = b[at]&0xf0|byte(four), b[at]&0x0f|byte(four<<4)
				for _, c := range [][]byte{low, high} {
					if four > 8 {
						k.wantNotGot(t, fmt.Sprint(four, " at ", at), c, api.ErrBytes)
						continue
					}
					x := k.wantGot(t, c)
					trial.WantBytes(t, "told plainly", plainSecret(x.secret), c)
				}
			}
		}
	}
	for at := range 4032 { // beside S1 and S2 any byte may be
		b := make([]byte, 4032)
		b[at] = 0x90
		if 128 <= at && at < 1536 {
			k.wantNotGot(t, fmt.Sprint("9 at ", at), b, api.ErrBytes)
		} else {
			k.wantGot(t, b)
		}
	}
}

// P9.1 (F2 to F4), P2.
func TestBytesOfWrongLengths(t *testing.T) {
	for _, k := range kinds() {
		b := k.wantPut(t, ordinary(6))
		k.wantNotGot(t, "one byte fewer", b[:k.n-1], api.ErrBytes)
		k.wantNotGot(t, "one byte fewer ahead", b[1:], api.ErrBytes)
		k.wantNotGot(t, "one byte more", trial.Joined(b, []byte{0}), api.ErrBytes)
		k.wantNotGot(t, "nil", nil, api.ErrBytes)
		for _, n := range append(trial.Around(k.n), 1952, 4032, 3309, 61, 32) {
			if n != k.n {
				k.wantNotGot(t, fmt.Sprint(n, " bytes"), make([]byte, n), api.ErrBytes)
			}
		}
	}
}

// P2: of several errors that which the call's words name first; here all that there are have one number, and nothing is put or got.
func TestSeveralErrorsOfKeys(t *testing.T) {
	for _, f := range fields() {
		x := ordinary(7)
		for _, l := range lists() {
			*l.of(&x) = trial.Ordinary(31, 1)
		}
		f.wantNotPut(t, f.name+" outside, and a wrong list", f.with(x, 0, 0, f.most+1), api.ErrArg)
	}
	for _, k := range kinds() {
		k.wantNotPut(t, "nothing at all", things{}, api.ErrArg)
	}
	secrets().wantNotGot(t, "a length and numbers that are wrong", slices.Repeat([]byte{255}, 4031), api.ErrBytes)
	secrets().wantNotGot(t, "numbers that are wrong", slices.Repeat([]byte{255}, 4032), api.ErrBytes)
}
