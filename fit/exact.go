package fit

import (
	"steelyard/api"
	"steelyard/dyad"
	"steelyard/super"
)

// line is what all numbers of a line are made of, just so: how many points there are, the chapter's D, C and T, and D times where the line cuts at nought.
type line struct {
	n       api.Dyad
	d, c, t api.Dyad
	cut     api.Dyad
}

// lineOf is the line of finite points, as many x as y.
func lineOf(x, y []float64) line {
	n := dyad.Int(len(x))
	sx, sy := total(x), total(y)
	sxx, sxy, syy := products(x, x), products(x, y), products(y, y)
	return line{
		n:   n,
		d:   less(times(n, sxx), times(sx, sx)),
		c:   less(times(n, sxy), times(sx, sy)),
		t:   less(times(n, syy), times(sy, sy)),
		cut: less(times(sxx, sy), times(sx, sxy)),
	}
}

// upright says that all points stand above each other: no line goes through.
func (l line) upright() bool { return dyad.Sign(l.d) == 0 }

// told is how much of the squares the line tells; where y is flat there are none, and it tells all.
func (l line) told(mode int) float64 {
	if dyad.Sign(l.t) == 0 {
		return 1
	}
	return quot(times(l.c, l.c), times(l.d, l.t), mode)
}

// left is what the line leaves of the squares.
func (l line) left(mode int) float64 {
	return quot(less(times(l.d, l.t), times(l.c, l.c)), times(l.n, l.d), mode)
}

// total is the sum of a list.
func total(l []float64) api.Dyad {
	acc := super.New()
	for _, x := range l {
		// MaxList numbers come to less than 2^1041: none is refused.
		acc.Add(x)
	}
	return acc.Exact()
}

// products is the sum of all products of what stands at one place.
func products(a, b []float64) api.Dyad {
	acc := super.New()
	for i, x := range a {
		// MaxList products come to less than 2^2065: none is refused.
		acc.AddProduct(x, b[i])
	}
	return acc.Exact()
}

// plus is for what lines are made of: no more than four numbers, or their sums, are multiplied, and then with n squared at most, so that all lies between 2^-4296 and 2^4200, far within what a Dyad may be.
func plus(a, b api.Dyad) api.Dyad {
	sum, _ := dyad.Add(a, b)
	return sum
}

// less is for what plus is for.
func less(a, b api.Dyad) api.Dyad {
	difference, _ := dyad.Sub(a, b)
	return difference
}

// times is for what plus is for.
func times(a, b api.Dyad) api.Dyad {
	product, _ := dyad.Mul(a, b)
	return product
}
