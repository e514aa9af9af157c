package mldsa_test

import (
	"fmt"
	"testing"

	"sodality/api"
	"sodality/mldsa"
	"sodality/trial"
)

// maker is a call that makes a polynomial of so many bytes, with what it makes by another way.
type maker struct {
	name  string
	n     int
	of    func(seed []byte) (api.Poly, api.Errno)
	plain func(seed []byte) api.Poly
}

func makers() []maker {
	return []maker{
		{"Uniform", 34, mldsa.Uniform, plainUniform},
		{"Small", 66, mldsa.Small, plainSmall},
		{"Ball", 48, mldsa.Ball, plainBall},
	}
}

func (m maker) made(t *testing.T, seed []byte) api.Poly {
	t.Helper()
	p, err := m.of(seed)
	trial.WantErr(t, m.name, err, api.OK)
	return p
}

// P10.1 (G1 to G3): of ordinary seeds, and of bytes that are all alike; each byte of a seed has its part.
func TestMakers(t *testing.T) {
	for _, m := range makers() {
		for _, seed := range trial.Seeds(m.n, 300) {
			trial.WantPoly(t, m.name, m.made(t, seed), m.plain(seed))
		}
		seed := trial.Ordinary(m.n, 7)
		was := m.made(t, seed)
		for at := range seed {
			other := trial.Changed(seed, at, 1<<(at%8))
			if p := m.made(t, other); p == was {
				t.Errorf("%s: byte %d has no part", m.name, at)
			} else {
				trial.WantPoly(t, m.name, p, m.plain(other))
			}
		}
	}
}

// P10.1 (G1 to G3), P2: seeds of any other length are none.
func TestMakersOfWrongLengths(t *testing.T) {
	for _, m := range makers() {
		for _, n := range append(trial.Around(m.n), 32, 34, 48, 64, 66) {
			if n == m.n {
				continue
			}
			for _, seed := range [][]byte{make([]byte, n), trial.Ordinary(n, 1)} {
				p, err := m.of(seed)
				trial.WantErr(t, fmt.Sprint(m.name, " of ", n, " bytes"), err, api.ErrArg)
				trial.WantPoly(t, m.name, p, api.Poly{})
			}
		}
		p, err := m.of(nil)
		trial.WantErr(t, m.name+" of nil", err, api.ErrArg)
		trial.WantPoly(t, m.name, p, api.Poly{})
	}
}

// P10.1 (G1): numbers are from 0 to q - 1, all the way.
func TestUniformNumbers(t *testing.T) {
	var parts [16]int
	for which := range 500 {
		for _, n := range makers()[0].made(t, trial.Ordinary(34, 1000+which)) {
			if n < 0 || n >= q {
				t.Fatalf("%d is drawn", n)
			}
			parts[n*16/q]++
		}
	}
	for i, many := range parts { // 8000 each, more or less
		if many < 7500 || many > 8500 {
			t.Errorf("%d numbers are from part %d", many, i)
		}
	}
}

// P10.3: small ones are from -4 to 4, and all of these are there.
func TestSmallNumbers(t *testing.T) {
	seen := map[int]int{}
	for which := range 500 {
		for _, n := range makers()[1].made(t, trial.Ordinary(66, 2000+which)) {
			seen[n]++
		}
	}
	for n := -4; n <= 4; n++ { // some 14222 each
		if seen[n] < 13500 || seen[n] > 15000 {
			t.Errorf("%d is drawn %d times", n, seen[n])
		}
		delete(seen, n)
	}
	if len(seen) > 0 {
		t.Errorf("there are others: %v", seen)
	}
}

// P10.3: a ball has 49 numbers that are 1 or -1, and all others are 0; wherever they are, and how many of each.
func TestBallNumbers(t *testing.T) {
	var places [256]int
	less := 0
	for which := range 1000 {
		many := 0
		for i, n := range makers()[2].made(t, trial.Ordinary(48, 3000+which)) {
			if n < -1 || n > 1 {
				t.Fatalf("%d stands in a ball", n)
			}
			many += n * n
			places[i] += n * n
			if n < 0 {
				less++
			}
		}
		if many != 49 {
			t.Fatalf("%d numbers are not 0", many)
		}
	}
	if less < 24000 || less > 25000 { // of 49000
		t.Errorf("%d are -1", less)
	}
	for i, many := range places { // some 191 each
		if many < 120 || many > 270 {
			t.Errorf("%d are not 0 at %d", many, i)
		}
	}
}

// P10.4: the same seed, asked anew behind others.
func TestMakersAnew(t *testing.T) {
	for _, m := range makers() {
		var first []api.Poly
		seeds := trial.Seeds(m.n, 20)
		for _, seed := range seeds {
			first = append(first, m.made(t, seed))
		}
		for i := len(seeds) - 1; i >= 0; i-- {
			trial.WantPoly(t, m.name+" anew", m.made(t, seeds[i]), first[i])
		}
	}
}
