package bits

import (
	"math"

	"steelyard/api"
)

// Next is the next greater number.
func Next(x float64) float64 {
	switch {
	case math.IsNaN(x):
		return NaN()
	case math.IsInf(x, 1):
		return x
	case x == 0:
		return math.Float64frombits(1)
	case x < 0:
		// Bits count away from nought on either side.
		return math.Float64frombits(math.Float64bits(x) - 1)
	}
	return math.Float64frombits(math.Float64bits(x) + 1)
}

// Prev is the next lesser number.
func Prev(x float64) float64 {
	if math.IsNaN(x) {
		return NaN()
	}
	return -Next(-x)
}

// Ulp is how far apart numbers lie there.
func Ulp(x float64) float64 {
	switch Class(x) {
	case api.Odd:
		return NaN()
	case api.Endless:
		return math.Inf(1)
	}
	// Measured from the least number of the same width (small ones: from nought), as the greatest number has no finite neighbour above.
	b := math.Float64bits(math.Abs(x)) >> fracBits << fracBits
	from := math.Float64frombits(b)
	return Next(from) - from
}

// Order is the total order of all numbers: -1, 0, 1.
func Order(x, y float64) int {
	switch {
	case Same(x, y):
		return 0
	case math.IsNaN(x) || x > y:
		return 1
	case math.IsNaN(y) || x < y:
		return -1
	}
	// Only the two noughts are left: neither is less, yet they are not the same.
	if math.Signbit(x) {
		return -1
	}
	return 1
}
