package wire

import "sodality/api"

const byteBits = 8

func isSize(size int) bool {
	switch size {
	case 1, 2, 4, 8:
		return true
	}
	return false
}

// isPlace: may b be read from there on? Its end is a place too, at which nothing stands.
func isPlace(b []byte, at int) bool { return at >= 0 && at <= len(b) }

// textAt is where the text begins whose length's bytes stand at a place, and where it ends.
func textAt(b []byte, at int) (int, int, api.Errno) {
	if !isPlace(b, at) {
		return 0, 0, api.ErrArg
	}
	n, from, err := lengthAt(b, at)
	if err != api.OK {
		return 0, 0, err
	}
	if n > api.MaxText {
		return 0, 0, api.ErrTooMany
	}
	if n > len(b)-from {
		return 0, 0, api.ErrEnd
	}
	return from, from + n, api.OK
}

// textsOf are the texts that b is made of, one behind the other.
func textsOf(b []byte) ([][]byte, api.Errno) {
	var out [][]byte
	for at := 0; at < len(b); {
		s, behind, err := GetText(b, at)
		if err != api.OK {
			return nil, err
		}
		out = append(out, s)
		at = behind
	}
	return out, api.OK
}
