package small_test

import (
	"math/big"

	"sodality/api"
)

// What stands here tells the same things in another way: the transform as the published standard defines it, by what each polynomial leaves of a polynomial of two numbers, and products as one learns them at school.

const q = 3329

// plainMod is n's remainder, by numbers of any size.
func plainMod(n int) int {
	return int(new(big.Int).Mod(big.NewInt(int64(n)), big.NewInt(q)).Int64())
}

func plainNumbers(of func(i int) int) api.Poly {
	var p api.Poly
	for i := range p {
		p[i] = plainMod(of(i))
	}
	return p
}

func plainBrought(p api.Poly) api.Poly {
	return plainNumbers(func(i int) int { return p[i] })
}

func plainTurned(i int) int {
	turned := 0
	for bit := range 7 {
		if i&(1<<bit) != 0 {
			turned += 64 >> bit
		}
	}
	return turned
}

// plainPower is 17, so often times itself.
func plainPower(times int) int {
	p := 1
	for range times {
		p = p * 17 % q
	}
	return p
}

// plainGammas: the transform's numbers 2 i and 2 i + 1 are what is left of a polynomial modulo X^2 less the one at i.
func plainGammas() [128]int {
	var g [128]int
	for i := range g {
		g[i] = plainPower(2*plainTurned(i) + 1)
	}
	return g
}

// plainNTT has each X^2 be the root it stands for.
func plainNTT(f api.Poly) api.Poly {
	f = plainBrought(f)
	var out api.Poly
	for i, g := range plainGammas() {
		power := 1
		for j := 0; j < 256; j += 2 {
			out[2*i] = (out[2*i] + f[j]*power) % q
			out[2*i+1] = (out[2*i+1] + f[j+1]*power) % q
			power = power * g % q
		}
	}
	return out
}

// plainInverse sums, over all roots, what their powers taken the other way round make: 256 numbers of 128 equations each.
func plainInverse(f api.Poly) api.Poly {
	f = plainBrought(f)
	var out api.Poly
	for i, g := range plainGammas() {
		back, power := plainBack(g), 1
		for j := 0; j < 256; j += 2 {
			out[j] = (out[j] + f[2*i]*power) % q
			out[j+1] = (out[j+1] + f[2*i+1]*power) % q
			power = power * back % q
		}
	}
	share := plainBack(128)
	for j := range out {
		out[j] = out[j] * share % q
	}
	return out
}

// plainBack is what brings n to 1, found by looking at all there are.
func plainBack(n int) int {
	for m := range q {
		if n*m%q == 1 {
			return m
		}
	}
	panic("none")
}

// plainPairs is, two by two, the product of a's and b's polynomials of two numbers, modulo X^2 less the root.
func plainPairs(a, b api.Poly) api.Poly {
	a, b = plainBrought(a), plainBrought(b)
	var c api.Poly
	for i, g := range plainGammas() {
		one := [2]int{a[2*i], a[2*i+1]}
		other := [2]int{b[2*i], b[2*i+1]}
		product := [3]int{one[0] * other[0], one[0]*other[1] + one[1]*other[0], one[1] * other[1]}
		c[2*i] = (product[0] + product[2]%q*g) % q
		c[2*i+1] = product[1] % q
	}
	return c
}

// plainProduct is a times b modulo X^256 + 1.
func plainProduct(a, b api.Poly) api.Poly {
	a, b = plainBrought(a), plainBrought(b)
	var long [511]int
	for i, x := range a {
		for j, y := range b {
			long[i+j] = (long[i+j] + x*y) % q
		}
	}
	return plainNumbers(func(i int) int {
		if i == 255 {
			return long[i]
		}
		return long[i] - long[i+256]
	})
}
