// Package trial is what tests of several layers share: bytes to try a call with, what is wanted of an answer, and lists that are lent. No layer stands on it.
package trial

import (
	"bytes"
	"slices"

	"sodality/api"
	"sodality/keccak"
)

// T is what a test tells its faults to; each *testing.T is one.
type T interface {
	Helper()
	Fatalf(format string, args ...any)
}

// Ordinary are n bytes, at most 65536, that look like none in particular: others for each number.
func Ordinary(n, which int) []byte {
	return keccak.Shake128([]byte{byte(which), byte(which >> 8)}, n)
}

// Seeds are bytes all 0, all 255, and so many ordinary ones.
func Seeds(n, many int) [][]byte {
	out := [][]byte{make([]byte, n), bytes.Repeat([]byte{255}, n)}
	for which := range many {
		out = append(out, Ordinary(n, which))
	}
	return out
}

// Around are lengths that are not n, those next to it first.
func Around(n int) []int {
	some := []int{n - 1, n + 1, 0, 1, n / 2, n - 2, n + 2, 2 * n, 2000}
	return slices.DeleteFunc(some, func(m int) bool { return m < 0 || m == n })
}

// Counted are 0, 1, 2 and so on, and 0 again behind 255.
func Counted(n int) []byte {
	out := make([]byte, n)
	for i := range out {
		out[i] = byte(i)
	}
	return out
}

// Changed is b with some bits of one byte turned.
func Changed(b []byte, at int, bits byte) []byte {
	out := bytes.Clone(b)
	out[at] ^= bits
	return out
}

// Joined is all parts, one behind the other, in new memory.
func Joined(parts ...[]byte) []byte { return bytes.Join(parts, nil) }

// WantBytes, WantNumbers, WantNumber and WantErr end a test that got something else.
func WantBytes(t T, what string, got, want []byte) {
	t.Helper()
	if !bytes.Equal(got, want) {
		t.Fatalf("%s: got %d bytes %.40x, want %d bytes %.40x", what, len(got), got, len(want), want)
	}
}

// WantHex is for bytes that are written out, each as two digits.
func WantHex(t T, what string, got []byte, want string) {
	t.Helper()
	if hexOf(got) != want {
		t.Fatalf("%s: got %x, want %s", what, got, want)
	}
}

func hexOf(b []byte) string {
	const digits = "0123456789abcdef"
	var out []byte
	for _, x := range b {
		out = append(out, digits[x>>4], digits[x&15])
	}
	return string(out)
}

func WantNumbers(t T, what string, got, want []int) {
	t.Helper()
	if !slices.Equal(got, want) {
		t.Fatalf("%s: got %d, want %d", what, got, want)
	}
}

func WantNumber(t T, what string, got, want int) {
	t.Helper()
	if got != want {
		t.Fatalf("%s: got %d, want %d", what, got, want)
	}
}

func WantErr(t T, what string, got, want api.Errno) {
	t.Helper()
	if got != want {
		t.Fatalf("%s: got error %d, want %d", what, got, want)
	}
}
