package moment

import (
	"steelyard/api"
	"steelyard/dyad"
)

// row is a list of finite numbers, each just as it is, and their sum.
type row struct {
	all []api.Dyad
	sum api.Dyad
}

// exact is a list as a row, or the first of what is amiss with it.
func exact(l []float64) (row, api.Errno) {
	if len(l) > api.MaxList {
		return row{}, api.ErrLong
	}
	all := make([]api.Dyad, len(l))
	for i := range len(l) {
		d, e := dyad.Of(l[i])
		if e != api.OK {
			return row{}, e
		}
		all[i] = d
	}
	return row{all: all, sum: total(len(l), func(i int) api.Dyad { return all[i] })}, api.OK
}

// total is what at tells of each of n places, added up.
func total(n int, at func(i int) api.Dyad) api.Dyad {
	var sum api.Dyad
	for i := range n {
		sum = plus(sum, at(i))
	}
	return sum
}

// spread is the common spread of two rows of one length; of a row and itself it is its spread of squares.
func spread(x, y row) api.Dyad {
	n := len(x.all)
	products := total(n, func(i int) api.Dyad { return times(x.all[i], y.all[i]) })
	// As with plus, nothing is refused.
	apart, _ := difference(n, products, x.sum, y.sum)
	return apart
}

// difference is n times p, less s times t, unless package dyad refuses one of these.
func difference(n int, p, s, t api.Dyad) (api.Dyad, api.Errno) {
	has, e := dyad.Mul(dyad.Int(n), p)
	if e != api.OK {
		return api.Dyad{}, e
	}
	takes, e := dyad.Mul(s, t)
	if e != api.OK {
		return api.Dyad{}, e
	}
	return dyad.Sub(has, takes)
}

// plus is for what is made of rows: at most MaxList numbers are added up, and no more than four of them, or of their sums, multiplied, so that all lies between 2^-4296 and 2^4300, far within what a Dyad may be.
func plus(a, b api.Dyad) api.Dyad {
	sum, _ := dyad.Add(a, b)
	return sum
}

// times is for what plus is for.
func times(a, b api.Dyad) api.Dyad {
	product, _ := dyad.Mul(a, b)
	return product
}

// raised is the k-th power of d.
func raised(d api.Dyad, k int) api.Dyad {
	power := dyad.Int(1)
	for range k {
		power = times(power, d)
	}
	return power
}
