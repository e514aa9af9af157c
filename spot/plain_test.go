package spot_test

import (
	"math"
	"slices"
)

const (
	maxDeep   = 16
	allLeaves = 65536
	allSpots  = 131071
)

// What follows tells the chapter's words in another way: a spot by the leaves below it, which are as many as 2^level and stand side by side.
type span struct{ from, many int }

func spanOf(level, place int) span {
	many := 1
	for range level {
		many += many
	}
	return span{place * many, many}
}

func (s span) level() int {
	level := 0
	for many := s.many; many > 1; many /= 2 {
		level++
	}
	return level
}

func (s span) place() int { return s.from / s.many }

func (s span) spot() complex128 { return complex(float64(s.level()), float64(s.place())) }

func (s span) has(leaf int) bool { return leaf >= s.from && leaf < s.from+s.many }

// number is in the midst of those of the leaves, which are even.
func (s span) number() int { return 2*s.from + s.many - 1 }

// isIn: are all its leaves in a tree so deep?
func (s span) isIn(deep int) bool {
	return deep >= 0 && deep <= maxDeep && s.from >= 0 && s.from+s.many <= spanOf(deep, 0).many
}

// around is the one of so many leaves that has a leaf.
func around(leaf, many int) span { return span{leaf - leaf%many, many} }

func (s span) up() span { return around(s.from, 2*s.many) }

func (s span) other() span {
	up := s.up()
	if s.from == up.from {
		return span{s.from + s.many, s.many}
	}
	return span{up.from, s.many}
}

func (s span) down(right bool) span {
	half := s.many / 2
	if right {
		return span{s.from + half, half}
	}
	return span{s.from, half}
}

func plainPath(leaf, deep int) []complex128 {
	var out []complex128
	for level := 1; level <= deep; level++ {
		out = append(out, around(leaf, spanOf(level, 0).many).spot())
	}
	return out
}

func plainBeside(leaf, deep int) []complex128 {
	var out []complex128
	for level := range deep {
		out = append(out, around(leaf, spanOf(level, 0).many).other().spot())
	}
	return out
}

func plainMeet(a, b int) complex128 {
	many := 1
	for !around(a, many).has(b) {
		many += many
	}
	return around(a, many).spot()
}

// leftToRight are all spans of a tree, in the order in which one meets their nodes.
func leftToRight(top span) []span {
	if top.many == 1 {
		return []span{top}
	}
	return slices.Concat(leftToRight(top.down(false)), []span{top}, leftToRight(top.down(true)))
}

func allOf(deep int) []span { return leftToRight(spanOf(deep, 0)) }

// someOf are, of each level of the deepest tree, those at both ends, those in the midst, and some more.
func someOf() []span {
	var out []span
	for level := range maxDeep + 1 {
		all := spanOf(maxDeep-level, 0).many
		for _, place := range []int{0, 1, 2, 3, 5, all/2 - 1, all / 2, all * 2 / 3, all - 3, all - 2, all - 1} {
			if place >= 0 && place < all {
				out = append(out, spanOf(level, place))
			}
		}
	}
	return out
}

// someLeaves are leaves of the deepest tree: around each power of two, and others.
func someLeaves() []int {
	out := []int{0, 3, 5, 6, 7, 1000, 12345, 43690, 21845, 54321}
	for many := 1; many < allLeaves; many += many {
		out = append(out, many-1, many, many+1, allLeaves-many)
	}
	slices.Sort(out)
	return slices.Compact(out)
}

// noLeaves are no leaves of any tree.
func noLeaves() []int {
	return []int{-1, -2, -65536, math.MinInt32, math.MinInt, allLeaves, allLeaves + 1, allSpots, 1 << 31, 1 << 32, 1<<32 + 1, 1 << 48, math.MaxInt - 1, math.MaxInt}
}

// noDeeps are not how deep any tree is.
func noDeeps() []int {
	return []int{-1, -2, -16, -64, math.MinInt32, math.MinInt, 17, 18, 31, 32, 33, 47, 48, 62, 63, 64, 65, 80, 1000, 1 << 32, 1<<32 + 3, math.MaxInt - 1, math.MaxInt}
}

// deeps are how deep a tree may be, and may not.
func deeps() []int {
	out := noDeeps()
	for deep := range maxDeep + 1 {
		out = append(out, deep)
	}
	return out
}

// noParts are neither a level nor a place of any spot.
func noParts() []float64 {
	least := math.SmallestNonzeroFloat64
	out := []float64{
		math.NaN(), math.Copysign(math.NaN(), -1), math.Inf(1), math.Inf(-1), math.MaxFloat64, -math.MaxFloat64,
		least, -least, 1e-300, -1e-300, 0.5, -0.5, -1, -2, -16, -17, -65536, 1e9, 1e300, -1e300,
		allLeaves, allLeaves + 1, allSpots, math.Pi,
	}
	for _, n := range []float64{1, 2, 3, 8, 15, 16, 100, 32767, 32768, 65534, 65535} {
		out = append(out, n+0.5, n-0.5, math.Nextafter(n, 0), math.Nextafter(n, 1e9), n+1e-9, -n, -n-0.5)
	}
	for _, power := range []int{17, 24, 31, 32, 33, 48, 52, 53, 54, 62, 63, 64, 65, 100, 1000} {
		n := math.Ldexp(1, power)
		out = append(out, n, -n, n+1, n-1, n+16, math.Nextafter(n, 0), math.Nextafter(n, math.Inf(1)))
	}
	return out
}
