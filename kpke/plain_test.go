package kpke_test

import (
	"crypto/sha3"
	"math/big"

	"sodality/api"
	"sodality/small"
	"sodality/trial"
)

// What stands here tells the same things in another way: bits are those of one great number, halves are those of fractions, and products are those of the school, of polynomials that were brought back from their transforms.

const q = 3329

const school = trial.Modulus(q)

// plainMod is n's remainder, by numbers of any size.
func plainMod(n, m int) int {
	return int(new(big.Int).Mod(big.NewInt(int64(n)), big.NewInt(int64(m))).Int64())
}

// plainNearest is a / b to the nearest whole number, upwards from a half.
func plainNearest(a, b int) int {
	x := new(big.Rat).Add(big.NewRat(int64(a), int64(b)), big.NewRat(1, 2))
	return int(new(big.Int).Div(x.Num(), x.Denom()).Int64())
}

func plainSqueeze(d, n int) int {
	if d < 1 || d > 11 {
		return 0
	}
	return plainMod(plainNearest(plainMod(n, q)<<d, q), 1<<d)
}

func plainStretch(d, n int) int {
	if d < 1 || d > 11 {
		return 0
	}
	return plainNearest(q*plainMod(n, 1<<d), 1<<d)
}

// plainModulus is what the numbers that are told in d bits are brought below.
func plainModulus(d int) int {
	if d == 12 {
		return q
	}
	return 1 << d
}

func plainBrought(d int, p api.Poly) api.Poly {
	for i, n := range p {
		p[i] = plainMod(n, plainModulus(d))
	}
	return p
}

// plainEncode puts one number above the other, the first one lowest, and tells the sum's bytes from the lowest one on.
func plainEncode(d int, p api.Poly) []byte {
	sum := new(big.Int)
	for i := 255; i >= 0; i-- {
		sum.Lsh(sum, uint(d))
		sum.Add(sum, big.NewInt(int64(plainMod(p[i], plainModulus(d)))))
	}
	return plainTurned(sum.FillBytes(make([]byte, 32*d)))
}

func plainDecode(d int, b []byte) api.Poly {
	sum := new(big.Int).SetBytes(plainTurned(b))
	var p api.Poly
	for i := range p {
		n := new(big.Int).Mod(sum, big.NewInt(1<<d))
		p[i] = plainMod(int(n.Int64()), plainModulus(d))
		sum.Rsh(sum, uint(d))
	}
	return p
}

func plainTurned(b []byte) []byte {
	out := make([]byte, len(b))
	for i, v := range b {
		out[len(b)-1-i] = v
	}
	return out
}

func plainUniform(seed []byte) api.Poly {
	b := sha3.SumSHAKE128(seed, 1680)
	var below []int
	for i := 0; i < len(b); i += 3 {
		x := int(b[i]) + 256*(int(b[i+1])%16)
		y := int(b[i+1])/16 + 16*int(b[i+2])
		for _, n := range []int{x, y} {
			if n < q {
				below = append(below, n)
			}
		}
	}
	return api.Poly(below[:256])
}

func plainCentred(b []byte) api.Poly {
	bit := func(i int) int { return int(b[i/8]) >> (i % 8) % 2 }
	var p api.Poly
	for i := range p {
		p[i] = plainMod(bit(4*i)+bit(4*i+1)-bit(4*i+2)-bit(4*i+3), q)
	}
	return p
}

func plainNoise(secret []byte, n int) api.Poly {
	return plainCentred(sha3.SumSHAKE256(trial.Joined(secret, []byte{byte(n)}), 128))
}

// plainMatrix is the seed's at row i, column j, brought back.
func plainMatrix(r []byte, i, j int) api.Poly {
	return small.Inverse(plainUniform(trial.Joined(r, []byte{byte(j), byte(i)})))
}

func plainSum(all ...api.Poly) api.Poly {
	var sum api.Poly
	for _, p := range all {
		for i, n := range p {
			sum[i] = (sum[i] + n) % q
		}
	}
	return sum
}

func plainKeys(seed []byte) ([]byte, []byte) {
	h := sha3.Sum512(trial.Joined(seed, []byte{3}))
	r, s := h[:32], h[32:]
	var ek, dk []byte
	for i := range 3 {
		t := plainNoise(s, 3+i)
		for j := range 3 {
			t = plainSum(t, school.Product(plainMatrix(r, i, j), plainNoise(s, j)))
		}
		ek = append(ek, plainEncode(12, small.NTT(t))...)
		dk = append(dk, plainEncode(12, small.NTT(plainNoise(s, i)))...)
	}
	return append(ek, r...), dk
}

func plainEncrypt(ek, m, coins []byte) []byte {
	r := ek[1152:]
	v := plainNoise(coins, 6)
	var c []byte
	for i := range 3 {
		u := plainNoise(coins, 3+i)
		for j := range 3 {
			u = plainSum(u, school.Product(plainMatrix(r, j, i), plainNoise(coins, j)))
		}
		c = append(c, plainEncode(10, plainEach(u, func(n int) int { return plainSqueeze(10, n) }))...)
		t := small.Inverse(plainDecode(12, ek[384*i:384*i+384]))
		v = plainSum(v, school.Product(t, plainNoise(coins, i)))
	}
	v = plainSum(v, plainEach(plainDecode(1, m), func(bit int) int { return 1665 * bit }))
	return append(c, plainEncode(4, plainEach(v, func(n int) int { return plainSqueeze(4, n) }))...)
}

// plainDecrypt has each bit be whether what is left is nearer to half of q than to nothing.
func plainDecrypt(dk, c []byte) []byte {
	w := plainEach(plainDecode(4, c[960:]), func(n int) int { return plainStretch(4, n) })
	for j := range 3 {
		u := plainEach(plainDecode(10, c[320*j:320*j+320]), func(n int) int { return plainStretch(10, n) })
		x := small.Inverse(plainDecode(12, dk[384*j:384*j+384]))
		less := plainEach(school.Product(x, u), func(n int) int { return q - n })
		w = plainSum(w, less)
	}
	return plainEncode(1, plainEach(w, func(n int) int {
		if n > q/4 && n < q-q/4 {
			return 1
		}
		return 0
	}))
}

func plainEach(p api.Poly, of func(n int) int) api.Poly {
	for i, n := range p {
		p[i] = of(n)
	}
	return p
}
