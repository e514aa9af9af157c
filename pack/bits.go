package pack

import "sodality/api"

const byteBits = 8

func polyBytes(bits int) int { return bits * api.N / byteBits }

// span is the bytes in which number i stands, if each has so many bits, and how many bits stand there ahead of it.
func span(b []byte, bits, i int) ([]byte, int) {
	at := bits * i
	return b[at/byteBits : (at+bits+byteBits-1)/byteBits], at % byteBits
}

// write takes bytes that are 0 where the number shall stand.
func write(b []byte, bits, i, n int) {
	part, ahead := span(b, bits, i)
	for j := range part {
		part[j] |= byte(n << ahead >> (byteBits * j))
	}
}

func read(b []byte, bits, i int) int {
	part, ahead := span(b, bits, i)
	n := 0
	for j, v := range part {
		n |= int(v) << (byteBits * j)
	}
	return n >> ahead & (1<<bits - 1)
}
