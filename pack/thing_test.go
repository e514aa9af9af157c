package pack_test

import (
	"slices"
	"testing"

	"sodality/api"
	"sodality/pack"
	"sodality/trial"
)

// things are one of each kind.
type things struct {
	public    api.Public
	secret    api.Secret
	signature api.Signature
}

func (x things) lists() [][]byte {
	return [][]byte{x.public.Rho, x.secret.Rho, x.secret.Key, x.secret.Tr, x.signature.C}
}

func (x things) polys() []api.Poly {
	s := x.secret
	return slices.Concat(x.public.T1[:], s.S1[:], s.S2[:], s.T0[:], x.signature.Z[:], x.signature.H[:])
}

func wantThings(t *testing.T, what string, got, want things) {
	t.Helper()
	lists, polys := want.lists(), want.polys()
	for i, b := range got.lists() {
		trial.WantBytes(t, what, b, lists[i])
	}
	for i, p := range got.polys() {
		trial.WantPoly(t, what, p, polys[i])
	}
}

func fill(all []api.Poly, which, least, most int) {
	for k := range all {
		all[k] = trial.Modulus(most - least + 1).Brought(trial.Wild(which + k))
		for i := range all[k] {
			all[k][i] += least
		}
	}
}

// ordinary are keys and a signature with numbers of all sizes, no two polynomials alike; the signature has 49 hints.
func ordinary(which int) things {
	var x things
	which *= 100
	x.public.Rho = trial.Ordinary(32, which)
	fill(x.public.T1[:], which+10, 0, 1023)
	s := &x.secret
	s.Rho, s.Key, s.Tr = trial.Ordinary(32, which+1), trial.Ordinary(32, which+2), trial.Ordinary(64, which+3)
	fill(s.S1[:], which+20, -4, 4)
	fill(s.S2[:], which+30, -4, 4)
	fill(s.T0[:], which+40, -4095, 4096)
	x.signature.C = trial.Ordinary(48, which+4)
	fill(x.signature.Z[:], which+50, -524287, 524288)
	for i, place := range trial.Ordinary(49, which+5) {
		at, p := int(place), &x.signature.H[i%6]
		for p[at] == 1 {
			at = (at + 1) % 256
		}
		p[at] = 1
	}
	return x
}

// noughts are things of noughts alone.
func noughts() things {
	return things{
		public:    api.Public{Rho: make([]byte, 32)},
		secret:    api.Secret{Rho: make([]byte, 32), Key: make([]byte, 32), Tr: make([]byte, 64)},
		signature: api.Signature{C: make([]byte, 48)},
	}
}

// kind is keys of one kind, or signatures: how many bytes they have, and how one of them is put, got, told plainly, and left alone.
type kind struct {
	name  string
	n     int
	put   func(x things) ([]byte, api.Errno)
	get   func(b []byte) (things, api.Errno)
	plain func(x things) []byte
	alone func(x things) things
}

func kindOf[K any](name string, n int, in func(x *things) *K, put func(K) ([]byte, api.Errno), get func([]byte) (K, api.Errno), plain func(K) []byte) kind {
	return kind{
		name: name,
		n:    n,
		put:  func(x things) ([]byte, api.Errno) { return put(*in(&x)) },
		get: func(b []byte) (x things, err api.Errno) {
			*in(&x), err = get(b)
			return x, err
		},
		plain: func(x things) []byte { return plain(*in(&x)) },
		alone: func(x things) (y things) {
			*in(&y) = *in(&x)
			return y
		},
	}
}

func publics() kind {
	in := func(x *things) *api.Public { return &x.public }
	return kindOf("a public key", 1952, in, pack.PutPublic, pack.GetPublic, plainPublic)
}

func secrets() kind {
	in := func(x *things) *api.Secret { return &x.secret }
	return kindOf("a secret key", 4032, in, pack.PutSecret, pack.GetSecret, plainSecret)
}

func signatures() kind {
	in := func(x *things) *api.Signature { return &x.signature }
	return kindOf("a signature", 3309, in, pack.PutSignature, pack.GetSignature, plainSignature)
}

func kinds() []kind { return []kind{publics(), secrets(), signatures()} }

// wantPut: the one of x is put as its plain bytes, is as it was, and is got of these.
func (k kind) wantPut(t *testing.T, x things) []byte {
	t.Helper()
	was := x
	b, err := k.put(x)
	trial.WantErr(t, k.name, err, api.OK)
	trial.WantBytes(t, k.name, b, k.plain(x))
	if len(b) != k.n {
		t.Fatalf("%s: %d bytes", k.name, len(b))
	}
	wantThings(t, k.name+", behind the call", x, was)
	again, err := k.get(b)
	trial.WantErr(t, k.name+", got", err, api.OK)
	wantThings(t, k.name+", got", again, k.alone(x))
	return b
}

// wantGot: what is got of bytes is put as it stood.
func (k kind) wantGot(t *testing.T, b []byte) things {
	t.Helper()
	x, err := k.get(b)
	trial.WantErr(t, k.name, err, api.OK)
	again, err := k.put(x)
	trial.WantErr(t, k.name+", put again", err, api.OK)
	trial.WantBytes(t, k.name+", put again", again, b)
	return x
}

// wantNotPut and wantNotGot: that is the error, and there is nothing else.
func (k kind) wantNotPut(t *testing.T, what string, x things, want api.Errno) {
	t.Helper()
	b, err := k.put(x)
	trial.WantErr(t, k.name+" with "+what, err, want)
	trial.WantBytes(t, k.name+" with "+what, b, nil)
}

func (k kind) wantNotGot(t *testing.T, what string, b []byte, want api.Errno) {
	t.Helper()
	x, err := k.get(b)
	trial.WantErr(t, k.name+" of "+what, err, want)
	wantThings(t, k.name+" of "+what, x, things{})
}
