package wire

import "sodality/api"

// class is one of lengths: those below end that no class ahead has. A length's bytes are the number of so many bytes that is mark more, and the first of them is below firstEnd.
type class struct {
	size      int
	firstEnd  byte
	mark, end int64
}

var classes = [3]class{
	{size: 1, firstEnd: 64, mark: 0, end: 1 << 6},
	{size: 2, firstEnd: 128, mark: 1 << 14, end: 1 << 14},
	{size: 4, firstEnd: 192, mark: 1 << 31, end: 1 << 30},
}

// lengthBytes takes lengths of at most MaxText, each of which has a class.
func lengthBytes(n int) []byte {
	for _, c := range classes {
		if int64(n) < c.end {
			return Number(int64(n)+c.mark, c.size)
		}
	}
	return nil
}

// lengthAt is the length whose bytes stand at a place of b, and the place behind them.
func lengthAt(b []byte, at int) (int, int, api.Errno) {
	if at == len(b) {
		return 0, 0, api.ErrEnd
	}
	least := int64(0) // of this class: those ahead have all that is below
look:
	for _, c := range classes {
		n, behind, err := GetNumber(b, at, c.size)
		switch {
		case b[at] >= c.firstEnd: // asked first: a byte that begins no length has none that could end too early
			least = c.end
			continue look
		case err != api.OK:
			return 0, 0, err
		case n-c.mark < least:
			break look
		default:
			return int(n - c.mark), behind, api.OK
		}
	}
	return 0, 0, api.ErrLong
}
