package rank

import (
	"math"
	"slices"

	"steelyard/api"
	"steelyard/bits"
	"steelyard/dyad"
)

// Median is the middle one, or the middle of two, rounded once.
func Median(l []float64, mode int) (float64, api.Errno) {
	switch {
	case mode < api.Even || mode > api.Away:
		return 0, api.ErrArg
	case len(l) > api.MaxList:
		return 0, api.ErrLong
	case slices.ContainsFunc(l, math.IsNaN):
		return 0, api.ErrOdd
	case len(l) == 0:
		return 0, api.ErrNone
	}
	// Of an odd list both are the one in the middle.
	sorted := Sort(l)
	return middle(sorted[(len(l)-1)/2], sorted[len(l)/2], mode)
}

// middle is that of two numbers in their order, neither of them a NaN.
func middle(x, y float64, mode int) (float64, api.Errno) {
	switch {
	case bits.Same(x, y):
		return x, api.OK
	case math.IsInf(x, -1) && math.IsInf(y, 1):
		return 0, api.ErrOdd
	case bits.Class(x) == api.Endless:
		return x, api.OK
	case bits.Class(y) == api.Endless:
		return y, api.OK
	}
	return dyad.Round(half(x, y), mode)
}

// half is that of the sum of two finite numbers, just so. Dyads hold all sums of two numbers: none is refused.
func half(x, y float64) api.Dyad {
	a, _ := dyad.Of(x)
	b, _ := dyad.Of(y)
	sum, _ := dyad.Add(a, b)
	by, _ := dyad.Of(0.5)
	exact, _ := dyad.Mul(sum, by)
	return exact
}
