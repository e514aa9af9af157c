package kpke

import (
	"slices"

	"sodality/api"
	"sodality/small"
)

// rowBytes is how long a text's first part is.
const rowBytes = api.KemK * rowBits * api.N / byteBits

type row [api.KemK]api.Poly

type matrix [api.KemK]row

func noiseRow(secret []byte, from int) row {
	var r row
	for i := range r {
		r[i] = noise(secret, from+i)
	}
	return r
}

// rowOf is what bytes say, of which there are three polynomials' of d bits a number.
func rowOf(d int, b []byte) row {
	var r row
	part := encodedBytes(d)
	for i := range r {
		r[i] = decoded(d, b[i*part:(i+1)*part])
	}
	return r
}

func (r row) encoded(d int) []byte {
	var out []byte
	for _, p := range r {
		out = append(out, Encode(d, p)...)
	}
	return out
}

func (r row) each(change func(p api.Poly) api.Poly) row {
	for i, p := range r {
		r[i] = change(p)
	}
	return r
}

func (r row) plus(other row) row {
	for i, p := range other {
		r[i] = small.Add(r[i], p)
	}
	return r
}

// times is the sum of the products of transforms, one by one.
func (r row) times(other row) api.Poly {
	var sum api.Poly
	for i, p := range r {
		sum = small.Add(sum, small.Times(p, other[i]))
	}
	return sum
}

// matrixOf has the column stand ahead of the row in a place's seed, as the published standard does.
func matrixOf(seed []byte) (matrix, api.Errno) {
	var a matrix
	for i := range a {
		for j := range a[i] {
			p, err := Uniform(slices.Concat(seed, []byte{byte(j), byte(i)}))
			if err != api.OK {
				return matrix{}, err
			}
			a[i][j] = p
		}
	}
	return a, api.OK
}

func (a matrix) times(x row) row {
	var r row
	for i, of := range a {
		r[i] = of.times(x)
	}
	return r
}

// turned has rows for columns.
func (a matrix) turned() matrix {
	var t matrix
	for i := range a {
		for j := range a[i] {
			t[j][i] = a[i][j]
		}
	}
	return t
}
