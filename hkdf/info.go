package hkdf

const (
	labelFront  = "GKA 1.0 "
	shortLength = 64    // lengths below it are one byte
	longMark    = 16384 // tells a length of two bytes by its first byte
)

// infoOf tells each length ahead of what has it, so that no label's end can be taken for a context's beginning.
func infoOf(label string, context []byte, n int) []byte {
	info := appendTwo(nil, n)
	info = append(info, byte(len(labelFront)+len(label)))
	info = append(info, labelFront...)
	info = append(info, label...)
	info = appendLength(info, len(context))
	return append(info, context...)
}

func appendLength(b []byte, length int) []byte {
	if length < shortLength {
		return append(b, byte(length))
	}
	return appendTwo(b, length+longMark)
}

// appendTwo puts a number of two bytes.
func appendTwo(b []byte, n int) []byte { return append(b, byte(n>>8), byte(n)) }
