package dot

import (
	"slices"

	"steelyard/api"
	"steelyard/dyad"
)

// Poly is a polynomial's value, rounded once: c[0] + c[1] x + ..
func Poly(c []float64, x float64, mode int) (float64, api.Errno) {
	switch {
	case !isMode(mode):
		return 0, api.ErrArg
	case len(c) > api.MaxPoly:
		return 0, api.ErrLong
	}
	at, e := dyad.Of(x)
	if e != api.OK {
		return 0, e
	}
	var value api.Dyad
	for _, n := range slices.Backward(c) {
		if value, e = onward(value, at, n); e != api.OK {
			return 0, e
		}
	}
	return dyad.Round(value, mode)
}

// onward is value times x, and n more. Only an n that is not finite is refused: MaxPoly steps lie between 2^-35442 and 2^33792, far within what a Dyad may be.
func onward(value, x api.Dyad, n float64) (api.Dyad, api.Errno) {
	more, e := dyad.Of(n)
	if e != api.OK {
		return api.Dyad{}, e
	}
	if value, e = dyad.Mul(value, x); e != api.OK {
		return api.Dyad{}, e
	}
	return dyad.Add(value, more)
}
