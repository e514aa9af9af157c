// Package keccak is layer 1: see shared/doc/01-keccak.md.
package keccak

// The bounds of a rate, and of what one Read gives. The layer stands on nothing, so it has api's MaxOut as a number of its own.
const (
	minRate = 8
	maxRate = 192
	maxOut  = 65536
)

// The rates of the four functions, and the bytes that end what they took.
const (
	rateSum256   = 136
	rateSum512   = 72
	rateShake128 = 168
	rateShake256 = 136
	endSum       = 6
	endShake     = 31
)

// lastEnd marks the rate's last byte, wherever what was taken ended.
const lastEnd = 128

// Sponge takes bytes in, and gives bytes out.
type Sponge struct {
	rate  int
	end   byte
	state state
	at    int // bytes taken, or given, since the last change
	gives bool
}

// New is one that takes so many bytes a time, and ends what it took with a byte.
func New(rate int, end byte) *Sponge {
	if rate < minRate || rate > maxRate || rate%wordBytes != 0 {
		return nil
	}
	return &Sponge{rate: rate, end: end}
}

// Write takes bytes in; Read gives so many out.
func (s *Sponge) Write(b []byte) {
	if s.gives {
		return
	}
	for _, v := range b {
		s.state.add(s.at, v)
		s.goOn()
	}
}

func (s *Sponge) Read(n int) []byte {
	if n < 0 || n > maxOut {
		return nil
	}
	if !s.gives {
		s.turnToGiving()
	}
	out := make([]byte, n)
	for i := range out {
		out[i] = s.state.byteAt(s.at)
		s.goOn()
	}
	return out
}

// goOn is eager, taking as giving: a sponge that took just as many bytes as its rate is changed already when its end is added.
func (s *Sponge) goOn() {
	s.at++
	if s.at == s.rate {
		s.state.change()
		s.at = 0
	}
}

func (s *Sponge) turnToGiving() {
	s.state.add(s.at, s.end)
	s.state.add(s.rate-1, lastEnd)
	s.state.change()
	s.at = 0
	s.gives = true
}

// Sum256, Sum512: SHA3. Shake128, Shake256: as many bytes as one wants.
func Sum256(b []byte) []byte { return atOnce(rateSum256, endSum, b, 32) }

func Sum512(b []byte) []byte { return atOnce(rateSum512, endSum, b, 64) }

func Shake128(b []byte, n int) []byte { return atOnce(rateShake128, endShake, b, n) }

func Shake256(b []byte, n int) []byte { return atOnce(rateShake256, endShake, b, n) }

func atOnce(rate int, end byte, b []byte, n int) []byte {
	s := New(rate, end)
	s.Write(b)
	return s.Read(n)
}
