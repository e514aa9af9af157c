package spot

import (
	"math"

	"sodality/api"
)

// spots are as many as the deepest tree has: of its leaves there is one more than of what is above them.
const spots = 2<<api.MaxDeep - 1

// parts are a spot's level and place, if it is one at all; minus nought is nought in them.
func parts(s complex128) (level, place float64, is bool) {
	if !Right(s, api.MaxDeep) {
		return 0, 0, false
	}
	return math.Abs(real(s)), math.Abs(imag(s)), true
}

func spotOf(level, place int) complex128 {
	return complex(float64(level), float64(place))
}

func isDeep(deep int) bool { return deep >= 0 && deep <= api.MaxDeep }

// isWhole: is it a whole number from 0 to most? What is no number at all is neither above nor below any, and so it is not.
func isWhole(x float64, most int) bool {
	return x >= 0 && x <= float64(most) && x == math.Floor(x)
}

// leaves are those of a tree so deep.
func leaves(deep int) int { return 1 << deep }

// isLeaf: is it a leaf of a tree so deep?
func isLeaf(i, deep int) bool {
	return isDeep(deep) && i >= 0 && i < leaves(deep)
}
