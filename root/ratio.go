package root

import (
	"steelyard/api"
	"steelyard/dyad"
)

// Add is a + b, just so.
func Add(a, b api.Ratio) (api.Ratio, api.Errno) { return crossed(a, b, dyad.Add) }

// Sub is a - b, just so.
func Sub(a, b api.Ratio) (api.Ratio, api.Errno) { return crossed(a, b, dyad.Sub) }

// Mul is a times b, just so.
func Mul(a, b api.Ratio) (api.Ratio, api.Errno) {
	l, e := forms(a, b)
	if e != api.OK {
		return api.Ratio{}, e
	}
	a, b = l[0], l[1]
	return products(a.Num, b.Num, a.Den, b.Den)
}

// Div is a by b, just so.
func Div(a, b api.Ratio) (api.Ratio, api.Errno) {
	l, e := forms(a, b)
	if e != api.OK {
		return api.Ratio{}, e
	}
	a, b = l[0], l[1]
	if dyad.Sign(b.Num) == 0 {
		return api.Ratio{}, api.ErrNought
	}
	r, e := products(a.Num, b.Den, a.Den, b.Num)
	if e != api.OK || !b.Num.Neg {
		return r, e
	}
	return api.Ratio{Num: dyad.Neg(r.Num), Den: dyad.Neg(r.Den)}, api.OK
}

// Cmp tells whether a is below b, alike, or above it: -1, 0, 1.
func Cmp(a, b api.Ratio) (int, api.Errno) {
	l, e := forms(a, b)
	if e != api.OK {
		return 0, e
	}
	a, b = l[0], l[1]
	return dyad.Cmp(unlimited(a.Num, b.Den), unlimited(b.Num, a.Den)), api.OK
}

// forms are ratios with their Dyads in their form, or the first of what is amiss with any of them.
func forms(l ...api.Ratio) ([]api.Ratio, api.Errno) {
	for _, r := range l {
		if dyad.Sign(r.Den) < 0 {
			return nil, api.ErrArg
		}
	}
	out := make([]api.Ratio, len(l))
	for i, r := range l {
		f, e := form(r)
		if e != api.OK {
			return nil, e
		}
		out[i] = f
	}
	for _, r := range out {
		if dyad.Sign(r.Den) == 0 {
			return nil, api.ErrNought
		}
	}
	return out, api.OK
}

func form(r api.Ratio) (api.Ratio, api.Errno) {
	num, e := dyad.Make(r.Num.Neg, r.Num.Mag, r.Num.Exp)
	if e != api.OK {
		return api.Ratio{}, e
	}
	den, e := dyad.Make(r.Den.Neg, r.Den.Mag, r.Den.Exp)
	if e != api.OK {
		return api.Ratio{}, e
	}
	return api.Ratio{Num: num, Den: den}, api.OK
}

// crossed is what a's Num times b's Den and b's Num times a's Den make together, by both Dens.
func crossed(a, b api.Ratio, together func(x, y api.Dyad) (api.Dyad, api.Errno)) (api.Ratio, api.Errno) {
	l, e := forms(a, b)
	if e != api.OK {
		return api.Ratio{}, e
	}
	a, b = l[0], l[1]
	// Both sides of what is put together, as if they were a ratio.
	sides, e := products(a.Num, b.Den, b.Num, a.Den)
	if e != api.OK {
		return api.Ratio{}, e
	}
	num, e := together(sides.Num, sides.Den)
	if e != api.OK {
		return api.Ratio{}, e
	}
	den, e := dyad.Mul(a.Den, b.Den)
	if e != api.OK {
		return api.Ratio{}, e
	}
	return api.Ratio{Num: num, Den: den}, api.OK
}

// products is a times b by c times d.
func products(a, b, c, d api.Dyad) (api.Ratio, api.Errno) {
	num, e := dyad.Mul(a, b)
	if e != api.OK {
		return api.Ratio{}, e
	}
	den, e := dyad.Mul(c, d)
	if e != api.OK {
		return api.Ratio{}, e
	}
	return api.Ratio{Num: num, Den: den}, api.OK
}

// unlimited is a times b, to be compared alone: where package dyad would refuse it, it is told all the same.
func unlimited(a, b api.Dyad) api.Dyad {
	return api.Dyad{Neg: a.Neg != b.Neg, Mag: times(a.Mag, b.Mag), Exp: a.Exp + b.Exp}
}

// times is a product of any length, which package wide would refuse.
func times(a, b api.Nat) api.Nat {
	p := make(api.Nat, len(a)+len(b))
	for i, w := range a {
		carry := uint64(0)
		for j, v := range b {
			t := uint64(w)*uint64(v) + uint64(p[i+j]) + carry
			p[i+j], carry = uint32(t), t>>32
		}
		p[i+len(b)] = uint32(carry)
	}
	return p
}
