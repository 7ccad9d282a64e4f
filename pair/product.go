package pair

import "steelyard/api"

// splitter is just past the middle of a number's 53 bits: what it is multiplied by is rounded there.
const splitter = 1<<27 + 1

// Halves cuts a number's digits in two, so short that products of halves lose nothing.
func Halves(a float64) api.Pair {
	c := step(splitter, number.times, a)
	d := step(a, number.minus, c)
	hi := step(c, number.plus, d)
	return api.Pair{Hi: hi, Lo: step(a, number.minus, hi)}
}

// Product is a times b, rounded, and what was lost: the halves' four products, the greatest first, less what is told already.
func Product(a, b float64) api.Pair {
	hi := step(a, number.times, b)
	x, y := Halves(a), Halves(b)
	p := step(x.Hi, number.times, y.Hi)
	p1 := step(p, number.minus, hi)
	q := step(x.Hi, number.times, y.Lo)
	p2 := step(p1, number.plus, q)
	r := step(x.Lo, number.times, y.Hi)
	p3 := step(p2, number.plus, r)
	s := step(x.Lo, number.times, y.Lo)
	return api.Pair{Hi: hi, Lo: step(p3, number.plus, s)}
}
