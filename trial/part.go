package trial

import (
	"slices"

	"sodality/api"
)

// Part is a spot of a tree, told by the leaves below it: so many, side by side.
type Part struct{ From, Many int }

// ManyOf is how many leaves a tree so deep has; Whole is all of it.
func ManyOf(deep int) int {
	many := 1
	for range deep {
		many += many
	}
	return many
}

func Whole(deep int) Part { return Part{0, ManyOf(deep)} }

// PartsOf are all of a tree so deep, those with the most leaves first, and of as many from left to right.
func PartsOf(deep int) []Part {
	var out []Part
	for many := ManyOf(deep); many > 0; many /= 2 {
		for from := 0; from < ManyOf(deep); from += many {
			out = append(out, Part{from, many})
		}
	}
	return out
}

// Number is in the midst of those of the leaves, which are even.
func (p Part) Number() int { return 2*p.From + p.Many - 1 }

func (p Part) Spot() complex128 {
	level := 0
	for many := p.Many; many > 1; many /= 2 {
		level++
	}
	return complex(float64(level), float64(p.From/p.Many))
}

// Halves are the two parts below one that has more leaves than one.
func (p Part) Halves() (left, right Part) {
	half := p.Many / 2
	return Part{p.From, half}, Part{p.From + half, half}
}

func (p Part) Has(leaf int) bool { return leaf >= p.From && leaf < p.From+p.Many }

func (p Part) IsOver(q Part) bool { return q.From >= p.From && q.From+q.Many <= p.From+p.Many }

// Chosen are those leaves of the tree, there and below p, that are told to be; There are all of them.
func (p Part) Chosen(t api.Tree, is func(p Part, leaf int) bool) []int {
	var out []int
	for i := p.From; i < p.From+p.Many; i++ {
		if t.Nodes[2*i].Kind != api.Blank && is(p, i) {
			out = append(out, i)
		}
	}
	return out
}

func (p Part) There(t api.Tree) []int { return p.Chosen(t, AllAre) }

// Resolve looks at all parts in or below p: there stand for it those that are not blank, with no such above them.
func (p Part) Resolve(t api.Tree) []int {
	var first []Part
	for _, q := range PartsOf(t.Deep) {
		if p.IsOver(q) && t.Nodes[q.Number()].Kind != api.Blank && !slices.ContainsFunc(first, func(r Part) bool { return r.IsOver(q) }) {
			first = append(first, q)
		}
	}
	slices.SortFunc(first, func(a, b Part) int { return a.From - b.From })
	var out []int
	for _, q := range first {
		out = append(out, q.Number())
		for _, i := range t.Nodes[q.Number()].Unmerged {
			out = append(out, 2*i)
		}
	}
	return out
}

// SumsOf are all sums of a tree, by its nodes' numbers: those of the leaves first, and each level from that below it.
func SumsOf(t api.Tree, sum func(b []byte) [32]byte) [][]byte {
	out := make([][]byte, len(t.Nodes))
	for _, p := range slices.Backward(PartsOf(t.Deep)) {
		b := NodeBytes(t.Nodes[p.Number()])
		if p.Many > 1 {
			left, right := p.Halves()
			b = Joined(b, out[left.Number()], out[right.Number()])
		}
		s := sum(b)
		out[p.Number()] = s[:]
	}
	return out
}

// NodeBytes are a node's, TextBytes a text's of up to 16383 bytes.
func NodeBytes(n api.Node) []byte {
	out := Joined([]byte{byte(n.Kind)}, TextBytes(n.Ek), TextBytes(n.Vk), TextBytes(n.Name), TextBytes(n.Above), twoBytes(len(n.Unmerged)))
	for _, leaf := range n.Unmerged {
		out = append(out, twoBytes(leaf)...)
	}
	return out
}

func TextBytes(s []byte) []byte {
	if len(s) < 64 {
		return Joined([]byte{byte(len(s))}, s)
	}
	return Joined(twoBytes(len(s)|1<<14), s)
}

func twoBytes(n int) []byte { return []byte{byte(n >> 8), byte(n)} }
