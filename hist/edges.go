package hist

import (
	"math"

	"steelyard/api"
	"steelyard/dyad"
	"steelyard/root"
)

// Edges are so many that lie evenly from lo to hi, each rounded once.
func Edges(lo, hi float64, parts int) ([]float64, api.Errno) {
	if parts < 1 || parts >= api.MaxEdges {
		return nil, api.ErrArg
	}
	low, e := dyad.Of(lo)
	if e != api.OK {
		return nil, e
	}
	high, e := dyad.Of(hi)
	if e != api.OK {
		return nil, e
	}
	l := make([]float64, parts+1)
	for i := range l {
		l[i] = between(low, high, i, parts)
	}
	if !rise(l) {
		return nil, api.ErrEdges
	}
	return l, api.OK
}

// between is the number at i of so many parts of the way from low to high.
func between(low, high api.Dyad, i, parts int) float64 {
	// Written over parts: low counts for what of the way is left, high for what is gone. Dyads hold both products and their sum: none is refused.
	left, _ := dyad.Mul(low, dyad.Int(parts-i))
	gone, _ := dyad.Mul(high, dyad.Int(i))
	num, _ := dyad.Add(left, gone)
	x, _ := root.Quot(api.Ratio{Num: num, Den: dyad.Int(parts)}, api.Even)
	return x
}

// rise says that l are edges.
func rise(l []float64) bool {
	if len(l) < 2 || len(l) > api.MaxEdges {
		return false
	}
	for i := 1; i < len(l); i++ {
		// Asked so, a NaN on either side is refused, too.
		if !(l[i-1] < l[i]) {
			return false
		}
	}
	// Where all rise, infinities can stand at the ends alone.
	return !math.IsInf(l[0], -1) && !math.IsInf(l[len(l)-1], 1)
}
