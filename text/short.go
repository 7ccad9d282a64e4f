package text

import (
	"strconv"
	"strings"

	"steelyard/api"
	"steelyard/bits"
	"steelyard/wide"
)

const (
	// enough digits tell every number; a step is one of the last of them.
	enough    = 17
	leastStep = 10000000000000000 // ten to the power of enough - 1
	leastExp  = -1074
	leastLong = 1 << 52 // the least Frac of plain ones
	// Where a body is written without a power of ten.
	lowestPlace  = -3
	highestPlace = 21
)

// Short is the shortest decimal text that reads back.
func Short(x float64) string { return told(x, shortDigits) }

func shortDigits(size float64) string {
	p := bits.Split(size)
	if p.Class == api.Nought {
		return "0"
	}
	return laidOut(shortest(p))
}

// laidOut writes the body of digits and its place.
func laidOut(body string, place int) string {
	switch {
	case place < lowestPlace || place > highestPlace:
		return pointed(body, "e", place-1)
	case place <= 0:
		return "0." + noughts(-place) + body
	case place < len(body):
		return body[:place] + "." + body[place:]
	}
	return body + noughts(place-len(body))
}

// shortest is the body, and its place, that tells the number of these parts.
func shortest(p api.Parts) (body string, place int) {
	s, place := measured(p)
	r := reached(p, s)
	for unit := uint64(leastStep); ; unit /= 10 {
		// By a unit of 1 there always is one, as enough digits are.
		if steps, ok := r.nearest(unit); ok || unit == 1 {
			all := strconv.FormatUint(steps, 10)
			// Next to a power of ten there may be one digit more ahead.
			return strings.TrimRight(all, "0"), place + len(all) - enough
		}
	}
}

// scale takes quarters of a Frac to steps: times by, divided by over.
type scale struct {
	by, over api.Nat
}

// scaleAt is the scale for quarters that count two to the power of two, and steps that count ten to the power of ten.
func scaleAt(two, ten int) scale {
	s := scale{wide.Of(1), wide.Of(1)}
	if ten < 0 {
		s.by = fives(-ten)
	} else {
		s.over = fives(ten)
	}
	if two -= ten; two < 0 {
		s.over = shifted(s.over, -two)
	} else {
		s.by = shifted(s.by, two)
	}
	return s
}

// steps is how many whole ones are in so many quarters, and whether nothing is left.
func (s scale) steps(quarters uint64) (n uint64, just bool) {
	q, left, _ := wide.Div(times(wide.Of(quarters), s.by), s.over)
	n, _ = wide.Small(q)
	return n, len(left) == 0
}

// measured is the scale by which the number has enough digits ahead of the point, and the number's place.
func measured(p api.Parts) (scale, int) {
	// By its bits alone the place may be found too great, never too small, as 0.30103 is above the logarithm of two, and what is below nought is rounded up.
	place := (wide.Len(wide.Of(p.Frac))+p.Exp)*30103/100000 + 1
	for {
		s := scaleAt(p.Exp-2, place-enough)
		if n, _ := s.steps(4 * p.Frac); n >= leastStep {
			return s, place
		}
		place--
	}
}

// reach is which steps are read as a number, from low to high, and where it lies itself: twice its steps, just so or rounded down.
type reach struct {
	low, high uint64
	twice     uint64
	just      bool
}

func reached(p api.Parts, s scale) reach {
	under := uint64(2)
	if p.Frac == leastLong && p.Exp > leastExp {
		// Below a power of two numbers lie closer together.
		under = 1
	}
	low, lowJust := s.steps(4*p.Frac - under)
	high, highJust := s.steps(4*p.Frac + 2)
	// The middles themselves go, by Even, to a Frac that is even.
	ends := p.Frac%2 == 0
	if !lowJust || !ends {
		low++
	}
	if highJust && !ends {
		high--
	}
	twice, just := s.steps(8 * p.Frac)
	return reach{low, high, twice, just}
}

// nearest is the multiple of unit that lies nearest to the number, of those that are read as it.
func (r reach) nearest(unit uint64) (steps uint64, ok bool) {
	under := r.twice / 2 / unit * unit
	over := under + unit
	switch {
	case over > r.high:
		return under, under >= r.low
	case under < r.low:
		return over, true
	}
	middle := under + over
	if r.twice > middle || r.twice == middle && (!r.just || under/unit%2 == 1) {
		return over, true
	}
	return under, true
}
