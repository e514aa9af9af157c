package keccak_test

import "math/bits"

// What stands here is the published standard's own way of telling the same thing, written without the package's tables: the rounds' constants come from a shift register and the turns from a walk over the state, and all bytes are taken at once, with their end laid behind them ahead of the first change.

type plainState [5][5]uint64 // [x][y]

// plainBit is bit t of the shift register that makes the rounds' constants.
func plainBit(t int) uint64 {
	r := 1
	for range t % 255 {
		r <<= 1
		if r&256 != 0 {
			r ^= 0x171
		}
	}
	return uint64(r & 1)
}

func plainConstant(round int) uint64 {
	var c uint64
	for j := range 7 {
		c |= plainBit(j+7*round) << (1<<j - 1)
	}
	return c
}

func plainTurns() [5][5]int {
	var t [5][5]int
	x, y := 1, 0
	for i := range 24 {
		t[x][y] = (i + 1) * (i + 2) / 2 % 64
		x, y = y, (2*x+3*y)%5
	}
	return t
}

func plainRound(w plainState, round int) plainState {
	var c [5]uint64
	for x := range 5 {
		for y := range 5 {
			c[x] ^= w[x][y]
		}
	}
	turns := plainTurns()
	var b, out plainState
	for x := range 5 {
		for y := range 5 {
			v := w[x][y] ^ c[(x+4)%5] ^ bits.RotateLeft64(c[(x+1)%5], 1)
			b[y][(2*x+3*y)%5] = bits.RotateLeft64(v, turns[x][y])
		}
	}
	for x := range 5 {
		for y := range 5 {
			out[x][y] = b[x][y] ^ (^b[(x+1)%5][y] & b[(x+2)%5][y])
		}
	}
	out[0][0] ^= plainConstant(round)
	return out
}

func plainChange(bytes [200]byte) [200]byte {
	var w plainState
	for i, v := range bytes {
		w[i/8%5][i/40] |= uint64(v) << (8 * (i % 8))
	}
	for round := range 24 {
		w = plainRound(w, round)
	}
	for i := range bytes {
		bytes[i] = byte(w[i/8%5][i/40] >> (8 * (i % 8)))
	}
	return bytes
}

// plainSponge is n bytes of a sponge that took b.
func plainSponge(rate int, end byte, b []byte, n int) []byte {
	all := append([]byte{}, b...)
	all = append(all, make([]byte, rate-len(b)%rate)...)
	all[len(b)] ^= end
	all[len(all)-1] ^= 128
	var state [200]byte
	for ; len(all) > 0; all = all[rate:] {
		for i := range rate {
			state[i] ^= all[i]
		}
		state = plainChange(state)
	}
	out := []byte{}
	for len(out) < n {
		out = append(out, state[:rate]...)
		state = plainChange(state)
	}
	return out[:n]
}
