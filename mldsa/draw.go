package mldsa

import (
	"iter"

	"sodality/api"
	"sodality/keccak"
)

const q = api.LargeQ

const (
	rateShake128 = 168
	rateShake256 = 136
	endShake     = 31
	byteBits     = 8
)

// How many bytes polynomials are made of, and how many times a sponge gives its rate of them at most: 2016, 1360 and 1088 bytes.
const (
	placeBytes  = api.Seed + 2 // a seed, a column and a row
	placeBlocks = 12

	smallBytes  = secretBytes + numberBytes
	smallBlocks = 10
	smallEnd    = 2*api.DsaEta + 1

	ballBlocks = 8
)

// given tells the bytes of SHAKE of a seed. They are given only when those ahead of them were too few, for most seeds need but some of the blocks.
func given(rate, blocks int, seed []byte) iter.Seq[int] {
	return func(yield func(int) bool) {
		s := keccak.New(rate, endShake)
		s.Write(seed)
		for range blocks {
			for _, b := range s.Read(rate) {
				if !yield(int(b)) {
					return
				}
			}
		}
	}
}

// threes and halves are candidates: the first 23 bits of each three bytes, and each four bits.
func threes(all iter.Seq[int]) iter.Seq[int] {
	return func(yield func(int) bool) {
		n, many := 0, 0
		for b := range all {
			n |= b << (byteBits * many)
			many++
			if many < 3 {
				continue
			}
			if !yield(n & (1<<23 - 1)) {
				return
			}
			n, many = 0, 0
		}
	}
}

func halves(all iter.Seq[int]) iter.Seq[int] {
	return func(yield func(int) bool) {
		for b := range all {
			if !yield(b&15) || !yield(b>>4) {
				return
			}
		}
	}
}

// drawn is made of the first candidates that are below an end.
func drawn(candidates iter.Seq[int], end int, what func(n int) int) (api.Poly, api.Errno) {
	var p api.Poly
	at := 0
	for n := range candidates {
		if n >= end {
			continue
		}
		p[at] = what(n)
		at++
		if at == len(p) {
			return p, api.OK
		}
	}
	return api.Poly{}, api.ErrDraw
}

// thrown is a ball: the first eight bytes are signs, those behind them say where to.
func thrown(all iter.Seq[int]) (api.Poly, api.Errno) {
	var c api.Poly
	var signs uint64
	bits, i := 0, api.N-api.DsaTau
	for b := range all {
		if bits < 64 {
			signs |= uint64(b) << bits
			bits += byteBits
			continue
		}
		if b > i {
			continue
		}
		c[i] = c[b]
		c[b] = 1 - 2*int(signs&1)
		signs >>= 1
		i++
		if i == len(c) {
			return c, api.OK
		}
	}
	return api.Poly{}, api.ErrDraw
}
