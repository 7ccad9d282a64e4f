package dyad

import (
	"cmp"

	"steelyard/api"
	"steelyard/wide"
)

// Cmp tells whether a is below b, alike, or above it: -1, 0, 1.
func Cmp(a, b api.Dyad) int {
	s := Sign(a)
	if s == 0 || s != Sign(b) {
		return cmp.Compare(s, Sign(b))
	}
	return s * cmpSizes(a, b)
}

// cmpSizes compares without signs; neither is nought.
func cmpSizes(a, b api.Dyad) int {
	if a.Exp < b.Exp {
		return -cmpSizes(b, a)
	}
	// Two Exps may lie further apart than an int tells: without a sign there is room.
	apart := uint(a.Exp) - uint(b.Exp)
	x, y := uint(wide.Len(a.Mag)), uint(wide.Len(b.Mag))
	switch {
	case apart > y:
		return 1
	case apart+x != y:
		return cmp.Compare(apart+x, y)
	}
	return cmpFromTop(a.Mag, b.Mag)
}

// cmpFromTop compares as if the highest ones counted the same. Nothing is shifted, as either may be of any length.
func cmpFromTop(a, b api.Nat) int {
	i, j := wide.Len(a), wide.Len(b)
	for i > 0 || j > 0 {
		i, j = i-wordBits, j-wordBits
		if c := cmp.Compare(window(a, i), window(b, j)); c != 0 {
			return c
		}
	}
	return 0
}
