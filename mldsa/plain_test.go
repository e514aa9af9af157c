package mldsa_test

import (
	"crypto/sha3"
	"slices"

	"sodality/api"
	"sodality/pack"
	"sodality/trial"
)

// What stands here is a second telling of the chapter, in other words: with the language's own SHA-3, with products of the school, of polynomials that were brought back from their transforms, and with numbers cut by division.

const q = 8380417

const school = trial.Modulus(q)

func ring() trial.Ring { return trial.Ring{Modulus: school, Root: 1753, Least: 1} }

func plainSum(n int, parts ...[]byte) []byte {
	return sha3.SumSHAKE256(trial.Joined(parts...), n)
}

func plainUniform(seed []byte) api.Poly {
	var below []int
	for three := range slices.Chunk(sha3.SumSHAKE128(seed, 2016), 3) {
		if n := int(three[0]) + 256*int(three[1]) + 65536*(int(three[2])%128); n < q {
			below = append(below, n)
		}
	}
	return api.Poly(below[:256])
}

func plainSmall(seed []byte) api.Poly {
	var below []int
	for _, b := range plainSum(1360, seed) {
		for _, n := range []byte{b % 16, b / 16} {
			if n < 9 {
				below = append(below, 4-int(n))
			}
		}
	}
	return api.Poly(below[:256])
}

func plainBall(seed []byte) api.Poly {
	b := plainSum(1088, seed)
	signs, b := b[:8], b[8:]
	var c api.Poly
	for i := 207; i < 256; i++ {
		for int(b[0]) > i {
			b = b[1:]
		}
		k := i - 207
		c[i], c[b[0]] = c[b[0]], 1-2*(int(signs[k/8])>>(k%8)%2)
		b = b[1:]
	}
	return c
}

// matrices are those that were made already, for one takes long.
var matrices = map[string][6][5]api.Poly{}

// plainMatrix is a seed's, brought back.
func plainMatrix(r []byte) [6][5]api.Poly {
	if a, is := matrices[string(r)]; is {
		return a
	}
	var a [6][5]api.Poly
	for i := range a {
		for j := range a[i] {
			a[i][j] = ring().Inverse(plainUniform(trial.Joined(r, []byte{byte(j), byte(i)})))
		}
	}
	matrices[string(r)] = a
	return a
}

func plainTimes(a [6][5]api.Poly, x [5]api.Poly) [6]api.Poly {
	var out [6]api.Poly
	for i := range a {
		for j := range a[i] {
			out[i] = ring().Add(out[i], school.Product(a[i][j], x[j]))
		}
	}
	return out
}

// plainPower2 and plainParts tell where a number is by how many borders lie below it.
func plainPower2(n int) (int, int) {
	high := (school.Number(n) + 4095) / 8192
	return high, school.Number(n) - 8192*high
}

func plainParts(n int) (int, int) {
	n = school.Number(n)
	high := (n + 261887) / 523776
	if high == 16 {
		return 0, n - q
	}
	return high, n - 523776*high
}

func plainUse(hint, n int) int {
	high, low := plainParts(n)
	if low > 0 {
		return (high + hint) % 16
	}
	return (high + 16 - hint) % 16
}

func plainHighs(w [6]api.Poly) [6]api.Poly {
	for k := range w {
		w[k] = plainEach(w[k], func(n int) int { high, _ := plainParts(n); return high })
	}
	return w
}

func plainEach(p api.Poly, of func(n int) int) api.Poly {
	for i, n := range p {
		p[i] = of(n)
	}
	return p
}

// plainNear is the number next to 0 that differs from n by a multiple of q.
func plainNear(n int) int {
	if n = school.Number(n); n > q/2 {
		return n - q
	}
	return n
}

// plainFar is how far from 0 the number is that is farthest.
func plainFar(all ...api.Poly) int {
	far := 0
	for _, p := range all {
		for _, n := range p {
			far = max(far, plainNear(n), -plainNear(n))
		}
	}
	return far
}

func plainMessageSum(tr, message, context []byte) []byte {
	return plainSum(64, tr, []byte{0, byte(len(context))}, context, message)
}

func plainChallenge(mu []byte, highs [6]api.Poly) []byte {
	all := trial.Joined(mu)
	for _, p := range highs {
		all = append(all, pack.Pack(4, p)...)
	}
	return plainSum(48, all)
}

// plainKeysOf has any s1 and s2 be a key's.
func plainKeysOf(r, key []byte, s1 [5]api.Poly, s2 [6]api.Poly) ([]byte, []byte) {
	public := api.Public{Rho: r}
	secret := api.Secret{Rho: r, Key: key, S1: s1, S2: s2}
	for k, p := range plainTimes(plainMatrix(r), s1) {
		for i, n := range ring().Add(p, s2[k]) {
			public.T1[k][i], secret.T0[k][i] = plainPower2(n)
		}
	}
	pk, _ := pack.PutPublic(public)
	secret.Tr = plainSum(64, pk)
	sk, _ := pack.PutSecret(secret)
	return pk, sk
}

func plainKeys(seed []byte) ([]byte, []byte) {
	b := plainSum(128, seed, []byte{6, 5})
	var s1 [5]api.Poly
	var s2 [6]api.Poly
	for n := range 5 {
		s1[n] = plainSmall(trial.Joined(b[32:96], []byte{byte(n), 0}))
	}
	for n := range 6 {
		s2[n] = plainSmall(trial.Joined(b[32:96], []byte{byte(5 + n), 0}))
	}
	return plainKeysOf(b[:32], b[96:], s1, s2)
}

// plainRound is what a round comes to: how far z, the low parts and u are from 0, how many hints there are, and the signature that it would be.
type plainRound struct {
	z, low, u, hints int
	signature        api.Signature
}

func (r plainRound) made() bool {
	return r.z < 524092 && r.low < 261692 && r.u < 261888 && r.hints <= 55
}

// plainRounds are all up to the one that brings a signature.
func plainRounds(sk, message, context, coins []byte) []plainRound {
	k, _ := pack.GetSecret(sk)
	mu := plainMessageSum(k.Tr, message, context)
	p := plainSum(64, k.Key, coins, mu)
	var out []plainRound
	for n := range 814 {
		var y [5]api.Poly
		for i := range y {
			number := 5*n + i
			y[i], _ = pack.Unpack(20, plainSum(640, p, []byte{byte(number % 256), byte(number / 256)}))
			y[i] = plainEach(y[i], func(n int) int { return 524288 - n })
		}
		out = append(out, plainRoundOf(k, mu, y))
		if out[n].made() {
			return out
		}
	}
	return nil
}

func plainRoundOf(k api.Secret, mu []byte, y [5]api.Poly) plainRound {
	w := plainTimes(plainMatrix(k.Rho), y)
	var r plainRound
	r.signature.C = plainChallenge(mu, plainHighs(w))
	c := plainBall(r.signature.C)
	for i := range y {
		z := ring().Add(y[i], school.Product(c, k.S1[i]))
		r.signature.Z[i] = plainEach(z, plainNear)
	}
	r.z = plainFar(r.signature.Z[:]...)
	for j := range w {
		v, u := ring().Sub(w[j], school.Product(c, k.S2[j])), school.Product(c, k.T0[j])
		r.u = max(r.u, plainFar(u))
		for i := range v {
			high, low := plainParts(v[i])
			r.low = max(r.low, low, -low)
			if other, _ := plainParts(v[i] + u[i]); other != high {
				r.signature.H[j][i] = 1
				r.hints++
			}
		}
	}
	return r
}

func plainSign(sk, message, context, coins []byte) []byte {
	all := plainRounds(sk, message, context, coins)
	b, _ := pack.PutSignature(all[len(all)-1].signature)
	return b
}

// plainVerify takes keys and signatures that may be ones.
func plainVerify(pk, message, context, signature []byte) bool {
	k, _ := pack.GetPublic(pk)
	s, _ := pack.GetSignature(signature)
	c := plainBall(s.C)
	w := plainTimes(plainMatrix(k.Rho), s.Z)
	for i := range w {
		t := plainEach(k.T1[i], func(n int) int { return 8192 * n })
		w[i] = ring().Sub(w[i], school.Product(c, t))
		for j, n := range w[i] {
			w[i][j] = plainUse(s.H[i][j], n)
		}
	}
	mu := plainMessageSum(plainSum(64, pk), message, context)
	return plainFar(s.Z[:]...) < 524092 && string(plainChallenge(mu, w)) == string(s.C)
}
