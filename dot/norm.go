package dot

import (
	"steelyard/api"
	"steelyard/dyad"
	"steelyard/policy"
	"steelyard/root"
	"steelyard/super"
)

// Norm is the root of the sum of squares, rounded once.
func Norm(a []float64, mode int) (float64, api.Errno) {
	if e := refused(a, a, mode); e != api.OK {
		return 0, e
	}
	squares := sum(len(a), func(i int, put func(x, y float64)) { put(a[i], a[i]) })
	return length(squares, mode)
}

// Distance is the root of the sum of the differences' squares, rounded once.
func Distance(a, b []float64, mode int) (float64, api.Errno) {
	if e := refused(a, b, mode); e != api.OK {
		return 0, e
	}
	squares := sum(len(a), func(i int, put func(x, y float64)) { putApart(a[i], b[i], put) })
	return length(squares, mode)
}

// putApart puts in the square of x - y.
func putApart(x, y float64, put func(x, y float64)) {
	if !finite(x) || !finite(y) {
		// Here a step loses nothing: it is a NaN of two infinities of one sign, or with a NaN, and else an infinity.
		put(x-y, x-y)
		return
	}
	// No number may hold the difference; the products that its square is made of are put in one by one.
	put(x, x)
	put(y, y)
	put(x, -y)
	put(x, -y)
}

// finite holds where x less itself is nought: of a NaN, and of an infinity, it is a NaN.
func finite(x float64) bool { return x-x == 0 }

// length is the root of a sum of squares, by a mode that is one.
func length(squares *super.Acc, mode int) (float64, api.Errno) {
	// Squares have no infinity below nought: what is carried is a NaN, or +Inf.
	if x, told := policy.Verdict(squares.Specials(), policy.Plain()); told {
		return x, api.OK
	}
	return root.Root(api.Ratio{Num: squares.Exact(), Den: dyad.Int(1)}, mode)
}
