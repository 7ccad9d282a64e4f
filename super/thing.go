package super

import (
	"steelyard/api"
	"steelyard/bits"
	"steelyard/wide"
)

// The sorts of things. A plain one is counted among all, and nowhere else.
const (
	plain = iota
	odd
	up
	down
	minus
	plus
)

// thing is what is added or taken. One that is plain has size times two to the power of place, counted from lowest on, below nought if neg; all others have no size.
type thing struct {
	kind  int
	neg   bool
	size  api.Nat
	place int
}

// number is x: of the same sort, and of the same value, as x times one.
func number(x float64) thing { return product(x, 1) }

func product(x, y float64) thing {
	p, q := bits.Split(x), bits.Split(y)
	neg := p.Neg != q.Neg
	least, most := min(p.Class, q.Class), max(p.Class, q.Class)
	switch {
	case most == api.Odd || most == api.Endless && least == api.Nought:
		return thing{kind: odd}
	case most == api.Endless:
		return thing{kind: signed(neg, down, up)}
	case least == api.Nought:
		return thing{kind: signed(neg, minus, plus)}
	}
	// Two words of 32 bits each are never too long.
	size, _ := wide.Mul(wide.Of(p.Frac), wide.Of(q.Frac))
	return thing{neg: neg, size: size, place: p.Exp + q.Exp - lowest}
}

func signed(neg bool, below, above int) int {
	if neg {
		return below
	}
	return above
}

// held is how many there are of a sort.
func held(s api.Specials, kind int) int {
	switch kind {
	case odd:
		return s.NaN
	case up:
		return s.Up
	case down:
		return s.Down
	case minus:
		return s.Minus
	case plus:
		return s.Plus
	}
	return s.All - s.NaN - s.Up - s.Down - s.Minus - s.Plus
}

// counted is s with n more of a sort.
func counted(s api.Specials, kind, n int) api.Specials {
	s.All += n
	switch kind {
	case odd:
		s.NaN += n
	case up:
		s.Up += n
	case down:
		s.Down += n
	case minus:
		s.Minus += n
	case plus:
		s.Plus += n
	}
	return s
}

// together is what both count.
func together(s, t api.Specials) api.Specials {
	return api.Specials{
		NaN:   s.NaN + t.NaN,
		Up:    s.Up + t.Up,
		Down:  s.Down + t.Down,
		Minus: s.Minus + t.Minus,
		Plus:  s.Plus + t.Plus,
		All:   s.All + t.All,
	}
}
