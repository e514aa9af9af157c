package pack

import (
	"bytes"
	"slices"

	"sodality/api"
)

const hintsBytes = api.DsaOmega + api.DsaK

// hintBytes takes polynomials of 0 and 1. There are none, if there are more ones than there is room for.
func hintBytes(h [api.DsaK]api.Poly) ([]byte, bool) {
	var places, counts []byte
	for _, p := range h {
		for place, n := range p {
			if n == 1 {
				places = append(places, byte(place))
			}
		}
		counts = append(counts, byte(len(places)))
	}
	if len(places) > api.DsaOmega {
		return nil, false
	}
	room := make([]byte, api.DsaOmega-len(places))
	return slices.Concat(places, room, counts), true
}

// hintsOf reads whatever bytes; such as are not those of what was read are no hints' bytes: a place that does not rise, or a count, or a byte behind the last place that is not 0.
func hintsOf(b []byte) ([api.DsaK]api.Poly, bool) {
	var h [api.DsaK]api.Poly
	places, counts := b[:api.DsaOmega], b[api.DsaOmega:]
	at := 0
	for k, count := range counts {
		for ; at < int(count) && at < len(places); at++ {
			h[k][places[at]] = 1
		}
	}
	again, _ := hintBytes(h)
	if !bytes.Equal(again, b) {
		return [api.DsaK]api.Poly{}, false
	}
	return h, true
}
