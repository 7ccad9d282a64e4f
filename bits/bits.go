// Package bits is layer 1: a number's parts, its neighbours, the total order of all numbers, and numbers of 32 bits. See shared/doc/01-bits.md.
package bits

import (
	"math"

	"steelyard/api"
)

const (
	oddBits  = 0x7FF8000000000000
	signBit  = 1 << 63
	fracBits = 52
	expBits  = 11
	leastExp = -1074
)

// Split tells a number's parts.
func Split(x float64) api.Parts {
	return split(math.Float64bits(x), fracBits, expBits, leastExp)
}

// split serves both widths, so that they can't come to differ: the sign bit, exps bits, fracs bits, from the highest on.
func split(b uint64, fracs, exps uint, least int) api.Parts {
	top := 1<<exps - 1
	e := int(b>>fracs) & top
	f := b & (1<<fracs - 1)
	if e == top && f != 0 {
		return api.Parts{Class: api.Odd}
	}
	p := api.Parts{Neg: b>>(fracs+exps)&1 == 1}
	switch {
	case e == top:
		p.Class = api.Endless
	case e == 0 && f == 0:
		p.Class, p.Exp = api.Nought, least
	case e == 0:
		p.Class, p.Exp, p.Frac = api.Small, least, f
	default:
		// The least plain ones lie as close together as the small ones do: e counts from there.
		p.Class, p.Exp, p.Frac = api.Plain, least+e-1, f|1<<fracs
	}
	return p
}

// Join makes the number of parts.
func Join(p api.Parts) (float64, api.Errno) {
	x := assemble(p)
	// Parts that no number has come to some number all the same; it tells other parts.
	if Split(x) != p {
		return 0, api.ErrParts
	}
	return x, api.OK
}

// assemble is right for what Split tells, and answers anything for other parts.
func assemble(p api.Parts) float64 {
	var b uint64
	switch p.Class {
	case api.Small:
		b = p.Frac
	case api.Plain:
		b = uint64(p.Exp-leastExp+1)<<fracBits | p.Frac&(1<<fracBits-1)
	case api.Endless:
		b = (1<<expBits - 1) << fracBits
	case api.Odd:
		return NaN()
	}
	if p.Neg {
		b |= signBit
	}
	return math.Float64frombits(b)
}

// Class is a number's class.
func Class(x float64) int { return Split(x).Class }

// NaN is the one NaN that is answered.
func NaN() float64 { return math.Float64frombits(oddBits) }

// Same tells whether two have the same bits, or are both NaN.
func Same(x, y float64) bool {
	if math.IsNaN(x) || math.IsNaN(y) {
		return math.IsNaN(x) && math.IsNaN(y)
	}
	return math.Float64bits(x) == math.Float64bits(y)
}
