package moment

import (
	"steelyard/api"
	"steelyard/dyad"
	"steelyard/root"
)

// Co is the sum of two lists' products about their means by n - less, rounded once.
func Co(a, b []float64, less int, mode int) (float64, api.Errno) {
	if !isMode(mode) || !isLess(less) {
		return 0, api.ErrArg
	}
	x, y, e := both(a, b)
	switch {
	case e != api.OK:
		return 0, e
	case len(x.all) <= less:
		return 0, api.ErrNone
	}
	return root.Quot(api.Ratio{Num: spread(x, y), Den: shares(len(x.all), less)}, mode)
}

// Link is how two lists go together, from -1 to 1, rounded once.
func Link(a, b []float64, mode int) (float64, api.Errno) {
	if !isMode(mode) {
		return 0, api.ErrArg
	}
	x, y, e := both(a, b)
	switch {
	case e != api.OK:
		return 0, e
	case len(x.all) == 0:
		return 0, api.ErrNone
	}
	squares := times(spread(x, x), spread(y, y))
	if dyad.Sign(squares) == 0 {
		return 0, api.ErrFlat
	}
	return byRoot(spread(x, y), squares, mode)
}

// both are two lists of one length as rows, or the first of what is amiss with them.
func both(a, b []float64) (x, y row, e api.Errno) {
	switch {
	case len(a) > api.MaxList || len(b) > api.MaxList:
		return row{}, row{}, api.ErrLong
	case len(a) != len(b):
		return row{}, row{}, api.ErrLength
	}
	if x, e = exact(a); e != api.OK {
		return row{}, row{}, e
	}
	if y, e = exact(b); e != api.OK {
		return row{}, row{}, e
	}
	return x, y, api.OK
}

// byRoot is c by the root of squares, which is above nought. That is the root of c's square by squares, but that a root knows no sign: what is below nought is worked out above it, by the mirrored mode.
func byRoot(c, squares api.Dyad, mode int) (float64, api.Errno) {
	r := api.Ratio{Num: times(c, c), Den: squares}
	if dyad.Sign(c) >= 0 {
		return root.Root(r, mode)
	}
	x, e := root.Root(r, mirrored(mode))
	if e != api.OK {
		return 0, e
	}
	return -x, api.OK
}

// mirrored is the mode that does to what is above nought what mode does below.
func mirrored(mode int) int {
	switch mode {
	case api.Up:
		return api.Down
	case api.Down:
		return api.Up
	}
	return mode
}
