package spread

import (
	"slices"

	"steelyard/api"
	"steelyard/dyad"
	"steelyard/pair"
)

// row is numbers that don't overlap, none of them a nought, the one of the least size first. It stands for their sum.
type row []float64

// with is the row with x in its sum; it takes over the memory of the one without.
func (r row) with(x float64) row {
	kept := r[:0]
	for _, y := range r {
		p := pair.Sum(x, y)
		kept = kept.and(p.Lo)
		x = p.Hi
	}
	return kept.and(x)
}

// and is the row with x behind it, unless that is a nought, which would tell nothing and stay for good.
func (r row) and(x float64) row {
	if x == 0 {
		return r
	}
	return append(r, x)
}

// merged is the row with all of another one's in its sum.
func (r row) merged(other row) row {
	// The other one may be r itself, whose memory is written over on the way.
	for _, x := range slices.Clone(other) {
		r = r.with(x)
	}
	return r
}

// exact is the sum, times two to the power of up.
func (r row) exact(up int) api.Dyad {
	var sum api.Dyad
	for _, x := range r {
		// What is kept is finite, and of no more bits than all numbers have together: nothing here is refused.
		d, _ := dyad.Of(x)
		d.Exp += up
		sum, _ = dyad.Add(sum, d)
	}
	return sum
}
