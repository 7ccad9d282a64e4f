package hist

import "math"

// outside is how many numbers lay in no bin.
type outside struct {
	below, above, odd int
}

// Outside is how many lay below the first edge, above the last one, and how many were NaN.
func (o *outside) Outside() (below, above, odd int) { return o.below, o.above, o.odd }

// takes counts x, if it lies in no bin from the edge low to the edge high, and says whether it does.
func (o *outside) takes(x, low, high float64) bool {
	switch {
	case math.IsNaN(x):
		o.odd++
	case x < low:
		o.below++
	case x > high:
		o.above++
	default:
		return false
	}
	return true
}

// join counts what another one has; that one comes as a copy, as it may be o itself.
func (o *outside) join(b outside) {
	o.below += b.below
	o.above += b.above
	o.odd += b.odd
}
