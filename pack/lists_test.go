package pack_test

import (
	"testing"

	"sodality/api"
	"sodality/pack"
	"sodality/trial"
)

// told is polynomials as lists, to be held against each other.
func told(all ...api.Poly) [][]byte {
	var out [][]byte
	for _, p := range all {
		out = append(out, plainPack(20, plainLess(524288, p)))
	}
	return out
}

func calls() trial.Calls {
	x := ordinary(10)
	only := func(b []byte, _ api.Errno) [][]byte { return [][]byte{b} }
	out := trial.Calls{
		{Name: "Pack", Do: func([][]byte) [][]byte { return [][]byte{pack.Pack(10, x.public.T1[0])} }},
		{Name: "Unpack", Take: [][]byte{trial.Ordinary(416, 1)}, Do: func(b [][]byte) [][]byte {
			p, _ := pack.Unpack(13, b[0])
			return told(p)
		}},
		{Name: "PutPublic", Take: [][]byte{x.public.Rho}, Do: func(b [][]byte) [][]byte {
			return only(pack.PutPublic(api.Public{Rho: b[0], T1: x.public.T1}))
		}},
		{Name: "PutSecret", Take: [][]byte{x.secret.Rho, x.secret.Key, x.secret.Tr}, Do: func(b [][]byte) [][]byte {
			k := x.secret
			k.Rho, k.Key, k.Tr = b[0], b[1], b[2]
			return only(pack.PutSecret(k))
		}},
		{Name: "PutSignature", Take: [][]byte{x.signature.C}, Do: func(b [][]byte) [][]byte {
			return only(pack.PutSignature(api.Signature{C: b[0], Z: x.signature.Z, H: x.signature.H}))
		}},
	}
	for _, k := range kinds() {
		out = append(out, trial.Call{Name: "getting " + k.name, Take: [][]byte{k.plain(x)}, Do: func(b [][]byte) [][]byte {
			got, _ := k.get(b[0])
			return append(got.lists(), told(got.polys()...)...)
		}})
	}
	return append(out, trial.Call{Name: "getting no signature", Take: [][]byte{hintText([]byte{1}, [6]byte{})}, Do: func(b [][]byte) [][]byte {
		s, _ := pack.GetSignature(b[0])
		return append(told(s.H[:]...), s.C)
	}})
}

// P3: lists that are handed in are neither changed nor kept, nor is their spare room, with an answer as with an error.
func TestListsHandedIn(t *testing.T) {
	calls().WantLent(t)
}

// P3: lists that come out are new memory, their spare room too; to change one changes no other one, and no later answer.
func TestListsThatComeOut(t *testing.T) {
	calls().WantNew(t)
}

// P3: one list may be handed in for two.
func TestOneListForTwo(t *testing.T) {
	x := ordinary(11)
	both := trial.Ordinary(64, 1)
	x.secret.Rho, x.secret.Key, x.secret.Tr = both[:32], both[16:48], both
	secrets().wantPut(t, x)
	trial.WantBytes(t, "the list", both, trial.Ordinary(64, 1))
}
