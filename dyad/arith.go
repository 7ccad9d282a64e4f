package dyad

import (
	"steelyard/api"
	"steelyard/wide"
)

// Add is a + b, just so.
func Add(a, b api.Dyad) (api.Dyad, api.Errno) {
	a, b, e := forms(a, b)
	switch {
	case e != api.OK:
		return api.Dyad{}, e
	case len(a.Mag) == 0:
		return b, api.OK
	case len(b.Mag) == 0:
		return a, api.OK
	}
	if a.Exp < b.Exp {
		a, b = b, a
	}
	// Of the lower one the whole number is its Mag, which is not too long: only the other one can grow to be.
	level, e := wide.Shift(a.Mag, a.Exp-b.Exp)
	if e != api.OK {
		return api.Dyad{}, e
	}
	if a.Neg == b.Neg {
		return sum(a.Neg, level, b.Mag, b.Exp)
	}
	return difference(a.Neg, level, b.Mag, b.Exp)
}

// Sub is a - b, just so.
func Sub(a, b api.Dyad) (api.Dyad, api.Errno) { return Add(a, turned(b)) }

// Mul is a times b, just so.
func Mul(a, b api.Dyad) (api.Dyad, api.Errno) {
	a, b, e := forms(a, b)
	if e != api.OK {
		return api.Dyad{}, e
	}
	// A product of odd ones is odd: as long as it is, it is in its form.
	m, e := wide.Mul(a.Mag, b.Mag)
	if e != api.OK {
		return api.Dyad{}, e
	}
	return Make(a.Neg != b.Neg, m, a.Exp+b.Exp)
}

// sum is a + b times two to the power of exp; b is odd.
func sum(neg bool, a, b api.Nat, exp int) (api.Dyad, api.Errno) {
	if wide.Bit(a, 0) {
		return evenSum(neg, a, b, exp)
	}
	s, e := wide.Add(a, b)
	if e != api.OK {
		return api.Dyad{}, e
	}
	return Make(neg, s, exp)
}

// evenSum is the sum of two odd ones. It may have a bit too many, where its form has not: so it is made as its half.
func evenSum(neg bool, a, b api.Nat, exp int) (api.Dyad, api.Errno) {
	a, _ = wide.Shift(a, -1)
	b, _ = wide.Shift(b, -1)
	half, _ := wide.Add(a, b)
	half, _ = wide.Add(half, wide.Of(1))
	return Make(neg, half, exp+1)
}

// difference is a - b times two to the power of exp, its sign turned, if neg.
func difference(neg bool, a, b api.Nat, exp int) (api.Dyad, api.Errno) {
	if wide.Cmp(a, b) < 0 {
		neg, a, b = !neg, b, a
	}
	d, _ := wide.Sub(a, b)
	return Make(neg, d, exp)
}
