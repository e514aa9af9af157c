package mldsa

import (
	"slices"

	"sodality/api"
	"sodality/large"
)

// row has a polynomial for each column of the matrix, and column one for each of its rows.
type row [api.DsaL]api.Poly

type column [api.DsaK]api.Poly

type vector interface{ row | column }

type matrix [api.DsaK]row

// drawnAll has at i the polynomial that draw makes of it.
func drawnAll[V vector](draw func(i int) (api.Poly, api.Errno)) (V, api.Errno) {
	var v, none V
	for i := range len(v) {
		p, err := draw(i)
		if err != api.OK {
			return none, err
		}
		v[i] = p
	}
	return v, api.OK
}

// matrixOf has the column stand ahead of the row in a place's seed, as the published standard does.
func matrixOf(seed []byte) (matrix, api.Errno) {
	var a matrix
	for i := range a {
		of, err := drawnAll[row](func(j int) (api.Poly, api.Errno) {
			return Uniform(slices.Concat(seed, []byte{byte(j), byte(i)}))
		})
		if err != api.OK {
			return matrix{}, err
		}
		a[i] = of
	}
	return a, api.OK
}

// smalls are the small polynomials of a secret that begin with number from.
func smalls[V vector](secret []byte, from int) (V, api.Errno) {
	return drawnAll[V](func(i int) (api.Poly, api.Errno) {
		return Small(slices.Concat(secret, twoBytes(from+i)))
	})
}

func each[V vector](v V, change func(p api.Poly) api.Poly) V {
	for i := range len(v) {
		v[i] = change(v[i])
	}
	return v
}

func both[V vector](a, b V, join func(a, b api.Poly) api.Poly) V {
	for i := range len(a) {
		a[i] = join(a[i], b[i])
	}
	return a
}

// size is the greatest of a vector's numbers, centred, without their signs.
func size[V vector](v V) int {
	most := 0
	for i := range len(v) {
		most = max(most, large.Size(v[i]))
	}
	return most
}

// times takes transforms, and answers none.
func (a *matrix) times(x row) column {
	var out column
	for i, of := range a {
		for _, p := range both(of, x, large.Times) {
			out[i] = large.Add(out[i], p)
		}
	}
	return each(out, large.Inverse)
}

// timesTransformOf c takes a transform, and answers none.
func timesTransformOf(c api.Poly) func(p api.Poly) api.Poly {
	c = large.NTT(c)
	return func(p api.Poly) api.Poly { return large.Inverse(large.Times(c, p)) }
}
