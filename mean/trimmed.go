package mean

import (
	"slices"

	"steelyard/api"
	"steelyard/bits"
)

// Trimmed is the mean without the k least and the k greatest.
func Trimmed(l []float64, k int, mode int) (x float64, e api.Errno) {
	defer func() { x = beside(e, x) }()
	if e = asked(mode); e != api.OK {
		return
	}
	if k < 0 {
		e = api.ErrArg
		return
	}
	if _, e = plain(l); e != api.OK {
		return
	}
	left := inner(l, k)
	// Only noughts of what is left have a say in the sign of a nought.
	seen, e := plain(left)
	if e != api.OK {
		return
	}
	return level(left, seen, mode)
}

// inner is what is left of l without the first k and the last k ones in their order, or none.
func inner(l []float64, k int) []float64 {
	// Twice k may be beyond all ints; what the list has beyond k is not.
	if len(l)-k <= k {
		return nil
	}
	row := slices.Clone(l)
	slices.SortFunc(row, bits.Order)
	return row[k : len(row)-k]
}
