package policy

import (
	"math"

	"steelyard/api"
	"steelyard/bits"
)

// Verdict is what a sum with such specials is (false: what the finite ones come to).
func Verdict(s api.Specials, p api.Policy) (float64, bool) {
	switch {
	case !sound(s) || !May(p):
		return 0, false
	case s.NaN > 0 && p.NaN == api.Carry:
		return bits.NaN(), true
	case p.Inf != api.Carry:
		return 0, false
	case s.Up > 0 && s.Down > 0:
		return bits.NaN(), true
	case s.Up > 0:
		return math.Inf(1), true
	case s.Down > 0:
		return math.Inf(-1), true
	}
	return 0, false
}

// Nought is the sign of a sum that comes to nought.
func Nought(s api.Specials, mode int) float64 {
	if !sound(s) {
		return 0
	}
	minus := math.Copysign(0, -1)
	switch finite := s.All - s.NaN - s.Up - s.Down; {
	case finite == 0:
		return 0
	case s.Minus == finite:
		return minus
	case s.Plus == finite:
		return 0
	case mode == api.Down:
		return minus
	}
	return 0
}

// sound tells whether specials may be. Each count is held against its bound first, so that what they come to can't pass an int's.
func sound(s api.Specials) bool {
	sorts := [...]int{s.NaN, s.Up, s.Down, s.Minus, s.Plus}
	sum := 0
	for i := range len(sorts) {
		if !countable(sorts[i]) {
			return false
		}
		sum += sorts[i]
	}
	return countable(s.All) && sum <= s.All
}

func countable(n int) bool { return 0 <= n && n <= api.MaxCount }
