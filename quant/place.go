package quant

import (
	"steelyard/api"
	"steelyard/dyad"
	"steelyard/mean"
	"steelyard/policy"
	"steelyard/root"
)

// place is at, and rest by den of the way to the next one.
type place struct {
	at, rest, den int
}

// placeOf is the place in a row of n at the share num by den. The product is below 2^47: nothing of it is lost.
func placeOf(n, num, den int) place {
	steps := (n - 1) * num
	return place{at: steps / den, rest: steps % den, den: den}
}

// near is the whole place that lies next; of two as near the even one.
func (p place) near() int {
	if 2*p.rest > p.den || 2*p.rest == p.den && p.at%2 == 1 {
		return p.at + 1
	}
	return p.at
}

// tell is what a rule has at a share of a row of finite numbers.
func tell(sorted []float64, num, den, rule, mode int) float64 {
	p := placeOf(len(sorted), num, den)
	if p.rest == 0 {
		return sorted[p.at]
	}
	low, high := sorted[p.at], sorted[p.at+1]
	switch rule {
	case api.AtLow:
		return low
	case api.AtHigh:
		return high
	case api.AtNear:
		return sorted[p.near()]
	case api.AtMid:
		// Both are finite, and the mode is one: Middle has nothing to refuse.
		middle, _ := mean.Middle(low, high, mode)
		return middle
	}
	return p.line(low, high, mode)
}

// line is the number on the line from low to high that a place with a rest stands for.
func (p place) line(low, high float64, mode int) float64 {
	// Written over den: low counts for what of the way is left, high for what is gone. Dyads hold both products and their sum: none is refused.
	left, gone := times(low, p.den-p.rest), times(high, p.rest)
	num, _ := dyad.Add(left, gone)
	if dyad.Sign(num) == 0 {
		_, seen, _ := policy.Sift([]float64{low, high}, policy.Plain())
		return policy.Nought(seen, mode)
	}
	x, _ := root.Quot(api.Ratio{Num: num, Den: dyad.Int(p.den)}, mode)
	return x
}

// times is n times a finite number, just so.
func times(x float64, n int) api.Dyad {
	d, _ := dyad.Of(x)
	product, _ := dyad.Mul(d, dyad.Int(n))
	return product
}
