package hkdf

import (
	"bytes"
	"strings"
	"testing"
)

// readInfo tells a label, a context and a length from an info alone: infos from which they can be told are unlike where they are.
func readInfo(info []byte) (label string, context []byte, n int, whole bool) {
	if len(info) < 3 {
		return "", nil, 0, false
	}
	n = int(info[0])<<8 | int(info[1])
	named := int(info[2])
	info = info[3:]
	if len(info) <= named || !strings.HasPrefix(string(info[:named]), "GKA 1.0 ") {
		return "", nil, 0, false
	}
	label = string(info[8:named])
	length := int(info[named])
	info = info[named+1:]
	if length >= 64 {
		if len(info) == 0 {
			return "", nil, 0, false
		}
		length = length<<8 | int(info[0])
		length -= 16384
		info = info[1:]
	}
	return label, info, n, length == len(info)
}

// P3.3: every label, context and length can be told from its info.
func TestInfosAreReadBack(t *testing.T) {
	for l := range 41 {
		label := strings.Repeat("\x00", l)
		for _, c := range []int{0, 1, 2, 62, 63, 64, 65, 127, 128, 255, 256, 257, 319, 320, 8192, 15999, 16000} {
			context := make([]byte, c)
			for _, n := range []int{0, 1, 31, 32, 33, 255, 256, 257, 8159, 8160} {
				gotLabel, gotContext, gotN, whole := readInfo(infoOf(label, context, n))
				if !whole || gotLabel != label || !bytes.Equal(gotContext, context) || gotN != n {
					t.Fatalf("a label of %d bytes, a context of %d, and n %d are read back as %d, %d, %d, %v", l, c, n, len(gotLabel), len(gotContext), gotN, whole)
				}
			}
		}
	}
}

// P3.3: so can every length of a context, and every n.
func TestEveryLengthIsReadBack(t *testing.T) {
	context := make([]byte, mostContext)
	for c := 0; c <= mostContext; c++ {
		if _, got, _, whole := readInfo(infoOf("key", context[:c], 32)); !whole || len(got) != c {
			t.Fatalf("a context of %d bytes is read back as one of %d, %v", c, len(got), whole)
		}
	}
	for n := 0; n <= mostOut; n++ {
		if _, _, got, whole := readInfo(infoOf("key", nil, n)); !whole || got != n {
			t.Fatalf("n %d is read back as %d, %v", n, got, whole)
		}
	}
}

// H2: pieces are told till there are enough, and there are 255 of them.
func TestPieces(t *testing.T) {
	for enough := 1; enough <= mostPieces; enough += 127 {
		told := 0
		for piece := range pieces([]byte("key"), nil) {
			if told++; told == enough {
				break
			}
			if len(piece) != sumBytes {
				t.Fatalf("piece %d has %d bytes", told, len(piece))
			}
		}
		if told != enough {
			t.Fatalf("%d pieces were told, want %d", told, enough)
		}
	}
	told := 0
	for range pieces(nil, nil) {
		told++
	}
	if told != mostPieces {
		t.Fatalf("%d pieces were told in all, want %d", told, mostPieces)
	}
}
