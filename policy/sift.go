package policy

import (
	"steelyard/api"
	"steelyard/bits"
)

// The kinds of numbers that Sift tells apart. From minusKind on they are finite.
const (
	oddKind = iota
	upKind
	downKind
	minusKind
	plusKind
	otherKind
)

// Sift takes the finite numbers out, by a policy, and tells what else there was.
func Sift(l []float64, p api.Policy) ([]float64, api.Specials, api.Errno) {
	if !May(p) {
		return nil, api.Specials{}, api.ErrArg
	}
	if len(l) > api.MaxList {
		return nil, api.Specials{}, api.ErrLong
	}
	left := make([]float64, 0, len(l))
	s := api.Specials{All: len(l)}
	for i := range len(l) {
		k := kind(l[i])
		count(&s, k)
		if k >= minusKind {
			left = append(left, l[i])
		}
	}
	// A NaN at the list's end is refused ahead of an infinity at its head: that is known when all are seen.
	if e := refusal(s, p); e != api.OK {
		return nil, api.Specials{}, e
	}
	return left, s, api.OK
}

func kind(x float64) int {
	parts := bits.Split(x)
	switch parts.Class {
	case api.Odd:
		return oddKind
	case api.Endless:
		return bySign(parts.Neg, downKind, upKind)
	case api.Nought:
		return bySign(parts.Neg, minusKind, plusKind)
	}
	return otherKind
}

func bySign(neg bool, minus, plus int) int {
	if neg {
		return minus
	}
	return plus
}

// count leaves All alone: Sift knows it beforehand.
func count(s *api.Specials, kind int) {
	switch kind {
	case oddKind:
		s.NaN++
	case upKind:
		s.Up++
	case downKind:
		s.Down++
	case minusKind:
		s.Minus++
	case plusKind:
		s.Plus++
	}
}

func refusal(s api.Specials, p api.Policy) api.Errno {
	switch {
	case s.NaN > 0 && p.NaN == api.Refuse:
		return api.ErrNaN
	case s.Up+s.Down > 0 && p.Inf == api.Refuse:
		return api.ErrEndless
	}
	return api.OK
}
