package mldsa

import (
	"sodality/api"
	"sodality/large"
	"sodality/pack"
)

const (
	challengeBytes = api.DsaHash
	maskBits       = 20
	maskPolyBytes  = maskBits * api.N / byteBits
)

// What is that great, or greater, would tell something of the secret key: a number of z, and a low part.
const (
	maskEnd = api.DsaGamma1 - api.DsaBeta
	lowEnd  = api.DsaGamma2 - api.DsaBeta
)

// signer is a secret key, of which polynomials stand as their transforms, what it signs, and the secret that all rounds are made of.
type signer struct {
	a      matrix
	s1     row
	s2, t0 column
	mu, p  []byte
}

func signerOf(k api.Secret, mu, coins []byte) (*signer, api.Errno) {
	a, err := matrixOf(k.Rho)
	if err != api.OK {
		return nil, err
	}
	return &signer{
		a:  a,
		s1: each(row(k.S1), large.NTT),
		s2: each(column(k.S2), large.NTT),
		t0: each(column(k.T0), large.NTT),
		mu: mu,
		p:  sum(secretBytes, k.Key, coins, mu),
	}, api.OK
}

// firstMade is what the first round that brings a signature brings.
func firstMade(round func(n int) (api.Signature, bool, api.Errno)) (api.Signature, api.Errno) {
	n := 0
anew:
	if n == api.DsaRounds {
		return api.Signature{}, api.ErrRetry
	}
	s, made, err := round(n)
	if err != api.OK {
		return api.Signature{}, err
	}
	if !made {
		n++
		goto anew
	}
	return s, api.OK
}

// round is false, if it brings no signature.
func (s *signer) round(n int) (api.Signature, bool, api.Errno) {
	y := s.mask(n)
	w := s.a.times(each(y, large.NTT))
	c := challenge(s.mu, each(w, highs))
	ball, err := Ball(c)
	if err != api.OK {
		return api.Signature{}, false, err
	}
	timesBall := timesTransformOf(ball)
	z := both(y, each(s.s1, timesBall), large.Add)
	v := both(w, each(s.s2, timesBall), large.Sub)
	if size(z) >= maskEnd || size(each(v, lows)) >= lowEnd {
		return api.Signature{}, false, api.OK
	}
	u := each(s.t0, timesBall)
	h := both(u, v, hinted)
	if size(u) >= api.DsaGamma2 || ones(h) > api.DsaOmega {
		return api.Signature{}, false, api.OK
	}
	return api.Signature{C: c, Z: each(z, large.Centred), H: h}, true, api.OK
}

// mask is what hides the secret key in round n.
func (s *signer) mask(n int) row {
	var y row
	for i := range y {
		b := sum(maskPolyBytes, s.p, twoBytes(api.DsaL*n+i))
		p, _ := pack.Unpack(maskBits, b) // there are as many bytes as it asks for
		y[i] = numbers(func(i int) int { return api.DsaGamma1 - p[i] })
	}
	return y
}

func ones(hints column) int {
	many := 0
	for _, p := range hints {
		for _, n := range p {
			many += n
		}
	}
	return many
}
