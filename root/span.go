package root

import (
	"steelyard/api"
	"steelyard/dyad"
	"steelyard/wide"
)

const (
	mostBits = 32 * api.MaxWords
	// digits are so many that all numbers, and all middles between two of them, are whole in a span's unit: none lies inside a span.
	digits = 64
	// far is, on either side, an Exp by which a span lies past all numbers.
	far = 4096
)

// span is where a size lies: at whole times two to the power of exp, or, unless at, between that and what one more would be.
type span struct {
	whole api.Nat
	exp   int
	at    bool
}

// quotient is rounded as r's value is. (Here and below r has Dyads in their form, and a Den above nought.)
func quotient(r api.Ratio) (api.Dyad, api.Errno) {
	return inside(r.Num.Neg, divided(r, digits))
}

// squareRoot is rounded as the root of r's value is.
func squareRoot(r api.Ratio) (api.Dyad, api.Errno) {
	if r.Num.Neg {
		return api.Dyad{}, api.ErrBelow
	}
	s := divided(r, 2*digits+1)
	if s.exp%2 != 0 {
		s = halved(s)
	}
	whole, left := wide.Root(s.whole)
	return inside(false, span{whole: whole, exp: s.exp / 2, at: s.at && wide.Len(left) == 0})
}

// divided is the size of r's value, in a span whose whole has at least that many bits, unless it is nought.
func divided(r api.Ratio, size int) span {
	p, q := r.Num.Mag, r.Den.Mag
	// What is divided must have size bits more than what it is divided by: where package wide has no room for that, it is divided by q's high end alone.
	cut := max(wide.Len(q)+size-mostBits, 0)
	high, _ := wide.Shift(q, -cut)
	by := wide.Len(high) + size - wide.Len(p)
	level, _ := wide.Shift(p, by)
	whole, left, _ := wide.Div(level, high)
	c := cmpLow(whole, left, q, high, cut)
	if c < 0 {
		// One less is enough: q is greater than whole times its low end.
		whole, _ = wide.Sub(whole, wide.Of(1))
	}
	// Where by is below nought p has lost its lowest bit, which is a one. (There is room then, and q has lost nothing.)
	return span{whole: whole, exp: r.Num.Exp - r.Den.Exp - by - cut, at: c == 0 && by >= 0}
}

// cmpLow tells how what is left by q's high end stands to what whole times q's low end, of cut bits, takes of it.
func cmpLow(whole, left, q, high api.Nat, cut int) int {
	back, _ := wide.Shift(high, cut)
	low, _ := wide.Sub(q, back)
	takes, _ := wide.Mul(whole, low)
	has, _ := wide.Shift(left, cut)
	return wide.Cmp(has, takes)
}

// halved is the same size in a unit twice as great.
func halved(s span) span {
	half, _ := wide.Shift(s.whole, -1)
	return span{whole: half, exp: s.exp + 1, at: s.at && !wide.Bit(s.whole, 0)}
}

// inside is a value that stands for all in its span: itself, or the middle of it.
func inside(neg bool, s span) (api.Dyad, api.Errno) {
	m, _ := wide.Shift(s.whole, 1)
	if !s.at {
		m, _ = wide.Add(m, wide.Of(1))
	}
	// An Exp beyond what a Dyad may have is rounded like any that is far out.
	return dyad.Make(neg, m, min(max(s.exp-1, -far), far))
}
