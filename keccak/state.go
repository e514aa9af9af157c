package keccak

import "math/bits"

const (
	side      = 5 // x and y go from 0 to 4
	words     = side * side
	wordBytes = 8
)

// state has w[x, y] at x + 5 y, which is the order of its bytes too.
type state [words]uint64

// roundConstants are those of rounds 0 to 23.
var roundConstants = [24]uint64{
	0x0000000000000001, 0x0000000000008082, 0x800000000000808a, 0x8000000080008000,
	0x000000000000808b, 0x0000000080000001, 0x8000000080008081, 0x8000000000008009,
	0x000000000000008a, 0x0000000000000088, 0x0000000080008009, 0x000000008000000a,
	0x000000008000808b, 0x800000000000008b, 0x8000000000008089, 0x8000000000008003,
	0x8000000000008002, 0x8000000000000080, 0x000000000000800a, 0x800000008000000a,
	0x8000000080008081, 0x8000000000008080, 0x0000000080000001, 0x8000000080008008,
}

// turns says by how many bits each word is turned, one row for each y.
var turns = [words]int{
	0, 1, 62, 28, 27,
	36, 44, 6, 55, 20,
	3, 10, 43, 25, 39,
	41, 45, 15, 21, 8,
	18, 2, 61, 56, 14,
}

// places says where each word goes, one row for each y: from x, y to y, 2 x + 3 y. It stands written out because the change is what all else waits for.
var places = [words]int{
	0, 10, 20, 5, 15,
	16, 1, 11, 21, 6,
	7, 17, 2, 12, 22,
	23, 8, 18, 3, 13,
	14, 24, 9, 19, 4,
}

// add has a byte become part of the state's byte i, by xor.
func (w *state) add(i int, v byte) {
	w[i/wordBytes] ^= uint64(v) << (8 * (i % wordBytes))
}

func (w *state) byteAt(i int) byte {
	return byte(w[i/wordBytes] >> (8 * (i % wordBytes)))
}

// change is all rounds, one behind the other.
func (w *state) change() {
	for _, constant := range roundConstants {
		w.spreadColumns()
		moved := w.turnedAndMoved()
		w.joinRows(&moved)
		w[0] ^= constant
	}
}

// spreadColumns has each word become unlike the columns beside it.
func (w *state) spreadColumns() {
	var c [side]uint64
	for x := range side {
		c[x] = w[x] ^ w[x+5] ^ w[x+10] ^ w[x+15] ^ w[x+20]
	}
	for x := range side {
		d := c[(x+4)%side] ^ bits.RotateLeft64(c[(x+1)%side], 1)
		w[x] ^= d
		w[x+5] ^= d
		w[x+10] ^= d
		w[x+15] ^= d
		w[x+20] ^= d
	}
}

// turnedAndMoved has w[x, y], turned, at y, 2 x + 3 y.
func (w *state) turnedAndMoved() state {
	var b state
	for i, to := range places {
		b[to] = bits.RotateLeft64(w[i], turns[i])
	}
	return b
}

// joinRows has each word be made of the three of b that follow one another in its row.
func (w *state) joinRows(b *state) {
	for i := 0; i < words; i += side {
		b0, b1, b2, b3, b4 := b[i], b[i+1], b[i+2], b[i+3], b[i+4]
		w[i] = b0 ^ (^b1 & b2)
		w[i+1] = b1 ^ (^b2 & b3)
		w[i+2] = b2 ^ (^b3 & b4)
		w[i+3] = b3 ^ (^b4 & b0)
		w[i+4] = b4 ^ (^b0 & b1)
	}
}
