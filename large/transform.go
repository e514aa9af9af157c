package large

import (
	"math/bits"

	"sodality/api"
)

const (
	root    = 1753
	unscale = 8347681 // times 256 it is 1: each of the eight levels back has doubled all numbers
)

// powers has z(i) at i, of all i.
func powers() [api.N]int {
	var z [api.N]int
	power := 1
	for i := range api.N {
		z[turned(i)] = power // turned twice, i is itself
		power = product(power, root)
	}
	return z
}

func turned(i int) int { return int(bits.Reverse8(uint8(i))) }

// level has each two numbers that stand n apart become what change makes of them, by a z that next tells of each block.
func level(f api.Poly, n int, next func() int, change func(z, low, high int) (int, int)) api.Poly {
	for s := 0; s < api.N; s += 2 * n {
		z := next()
		for j := s; j < s+n; j++ {
			f[j], f[j+n] = change(z, f[j], f[j+n])
		}
	}
	return f
}

func spread(z, low, high int) (int, int) {
	t := product(z, high)
	return number(low + t), number(low - t)
}

// join undoes spread, if both's z have the product 1, but for both numbers being doubled.
func join(z, low, high int) (int, int) {
	return number(low + high), product(z, low-high)
}
