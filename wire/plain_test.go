package wire_test

import (
	"bytes"
	"encoding/binary"
	"math"
	"math/big"
	"slices"

	"sodality/api"
	"sodality/trial"
)

const maxText = 1 << 20

// What follows tells the chapter's words in another way: numbers of whatever size, lengths by cases, and what is read is what is written alike.
func plainNumber(n int64, size int) []byte {
	if !slices.Contains([]int{1, 2, 4, 8}, size) || n < 0 || big.NewInt(n).BitLen() > 8*size {
		return nil
	}
	return big.NewInt(n).FillBytes(make([]byte, size))
}

func plainLength(n int) []byte {
	switch {
	case n < 64:
		return []byte{byte(n)}
	case n < 16384:
		return binary.BigEndian.AppendUint16(nil, uint16(16384+n))
	default:
		return binary.BigEndian.AppendUint32(nil, uint32(1<<31+n))
	}
}

func plainText(s []byte) []byte { return trial.Joined(plainLength(len(s)), s) }

func plainTexts(l [][]byte) []byte {
	var all []byte
	for _, s := range l {
		all = append(all, plainText(s)...)
	}
	return all
}

func plainList(l [][]byte) []byte { return plainText(plainTexts(l)) }

func plainGetNumber(b []byte, at, size int) (int64, int, api.Errno) {
	if at < 0 || at > len(b) || !slices.Contains([]int{1, 2, 4, 8}, size) {
		return 0, 0, api.ErrArg
	}
	if len(b[at:]) < size {
		return 0, 0, api.ErrEnd
	}
	n := new(big.Int).SetBytes(b[at:][:size])
	if n.Cmp(big.NewInt(math.MaxInt64)) > 0 {
		return 0, 0, api.ErrLong
	}
	return n.Int64(), at + size, api.OK
}

func plainGetText(b []byte, at int) ([]byte, int, api.Errno) {
	if at < 0 || at > len(b) {
		return nil, 0, api.ErrArg
	}
	rest := b[at:]
	if len(rest) == 0 {
		return nil, 0, api.ErrEnd
	}
	if rest[0] >= 192 {
		return nil, 0, api.ErrLong
	}
	size := 1 << (rest[0] / 64)
	if len(rest) < size {
		return nil, 0, api.ErrEnd
	}
	told := slices.Clone(rest[:size])
	told[0] %= 64
	n := int(new(big.Int).SetBytes(told).Int64())
	switch {
	case !bytes.HasPrefix(rest, plainLength(n)):
		return nil, 0, api.ErrLong
	case n > maxText:
		return nil, 0, api.ErrTooMany
	case len(rest) < size+n:
		return nil, 0, api.ErrEnd
	}
	return rest[size : size+n], at + size + n, api.OK
}

func plainGetList(b []byte, at int) ([][]byte, int, api.Errno) {
	all, behind, err := plainGetText(b, at)
	if err != api.OK {
		return nil, 0, err
	}
	var l [][]byte
	for len(all) > 0 {
		s, n, err := plainGetText(all, 0)
		if err != api.OK {
			return nil, 0, err
		}
		l, all = append(l, s), all[n:]
	}
	return l, behind, api.OK
}
