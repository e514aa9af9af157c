package small

import (
	"math/bits"

	"sodality/api"
)

const (
	root    = 17
	pairs   = api.N / 2
	least   = 2    // the transform ends here: modulo q there is no root for a level of 1
	unscale = 3303 // times 128 it is 1: each of the seven levels back has doubled all numbers
)

// powers has z(i) at i, of all i.
func powers() [pairs]int {
	var z [pairs]int
	power := 1
	for i := range z {
		z[turned(i)] = power // turned twice, i is itself
		power = number(power * root)
	}
	return z
}

// turned takes i for seven bits, where the library has eight.
func turned(i int) int { return int(bits.Reverse8(uint8(i)) >> 1) }

// level has each two numbers that stand n apart become what change makes of them; next tells each block's z.
func level(f api.Poly, n int, next func() int, change func(z, low, high int) (int, int)) api.Poly {
	for s := 0; s < api.N; s += 2 * n {
		z := next()
		for j := s; j < s+n; j++ {
			f[j], f[j+n] = change(z, f[j], f[j+n])
		}
	}
	return f
}

func spread(z, low, high int) (int, int) {
	t := z * high
	return number(low + t), number(low - t)
}

// join undoes spread, but for all being doubled.
func join(z, low, high int) (int, int) {
	return number(low + high), number(z * (high - low))
}
