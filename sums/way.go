package sums

import "math"

// way is how a sum s goes that keeps, in c, what its steps have lost: step takes one number more, end is what both come to.
type way struct {
	step func(s, c, x float64) (float64, float64)
	end  func(s, c float64) float64
}

func (w way) sum(l []float64) float64 {
	s, c := 0.0, 0.0
	for _, x := range l {
		s, c = w.step(s, c, x)
	}
	return told(w.end(s, c))
}

// Kahan gives each number what the one ahead of it has lost.
func Kahan(l []float64) float64 {
	return way{step: repaid, end: alone}.sum(l)
}

func repaid(s, c, x float64) (float64, float64) {
	y := minus(x, c)
	t := plus(s, y)
	u := minus(t, s)
	return t, minus(u, y)
}

func alone(s, c float64) float64 { return s }

// Neumaier keeps what is lost till the end; it is told from the lesser of both, which is the one that loses.
func Neumaier(l []float64) float64 {
	return way{step: saved, end: together}.sum(l)
}

func saved(s, c, x float64) (float64, float64) {
	t := plus(s, x)
	great, less := x, s
	if math.Abs(s) >= math.Abs(x) {
		great, less = s, x
	}
	u := minus(great, t)
	v := plus(u, less)
	return t, plus(c, v)
}

func together(s, c float64) float64 { return plus(s, c) }
