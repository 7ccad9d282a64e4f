package mean

import (
	"steelyard/api"
	"steelyard/dyad"
	"steelyard/root"
	"steelyard/super"
)

// Weighted is the sum of weighted ones by the sum of weights, rounded once.
func Weighted(l, w []float64, mode int) (x float64, e api.Errno) {
	defer func() { x = beside(e, x) }()
	if e = asked(mode); e != api.OK {
		return
	}
	if e = paired(l, w); e != api.OK {
		return
	}
	r := api.Ratio{Num: products(l, w), Den: exact(w)}
	if dyad.Sign(r.Den) < 0 {
		r = api.Ratio{Num: dyad.Neg(r.Num), Den: dyad.Neg(r.Den)}
	}
	// Weights that come to nought are refused there, as every Den that is nought.
	return root.Quot(r, mode)
}

// paired is the first of what is amiss with numbers and their weights.
func paired(l, w []float64) api.Errno {
	switch {
	case len(l) > api.MaxList || len(w) > api.MaxList:
		return api.ErrLong
	case len(l) != len(w):
		return api.ErrLength
	}
	for _, row := range [][]float64{l, w} {
		if _, e := plain(row); e != api.OK {
			return e
		}
	}
	if len(l) == 0 {
		return api.ErrNone
	}
	return api.OK
}

// products is the sum of all products of a number and its weight, just so.
func products(l, w []float64) api.Dyad {
	acc := super.New()
	for i, x := range l {
		// MaxList products come to less than 2^2065: none is refused.
		acc.AddProduct(x, w[i])
	}
	return acc.Exact()
}
