package fit

import (
	"math"
	"slices"
	"testing"

	"steelyard/api"
)

// special is a list of n numbers that has as many kinds that are not finite as it has room for.
func special(n int) []float64 {
	l := often(n, 1)
	copy(l, []float64{hole, inf, -inf})
	return l
}

// refusal is points of which something is refused: by Line and At, and by Through; either may take them (api.OK).
type refusal struct {
	name          string
	x, y          []float64
	line, through api.Errno
}

// refusals are by each error alone, and by several at once.
func refusals() []refusal {
	tooLong, most := often(longest+1, 1), often(longest, 1)
	return []refusal{
		{"x too long", tooLong, nil, api.ErrLong, api.ErrLong},
		{"y too long", nil, tooLong, api.ErrLong, api.ErrLong},
		{"both too long", tooLong, tooLong, api.ErrLong, api.ErrLong},
		{"x far too long", often(2*longest, 0), nums(1, 2), api.ErrLong, api.ErrLong},
		{"x too long by one, y as long as may be", tooLong, most, api.ErrLong, api.ErrLong},
		{"y too long by one, x as long as may be", most, tooLong, api.ErrLong, api.ErrLong},
		{"too long, and not finite", special(longest + 1), special(longest + 1), api.ErrLong, api.ErrLong},
		{"too long, the other one not finite", tooLong, nums(hole), api.ErrLong, api.ErrLong},
		{"too long, and noughts", often(longest+1, 0), often(longest+1, noughtBelow), api.ErrLong, api.ErrLong},
		{"one y more", nums(1), nums(1, 2), api.ErrLength, api.ErrLength},
		{"one x more", nums(1, 2), nums(1), api.ErrLength, api.ErrLength},
		{"one x and none", nums(1), nil, api.ErrLength, api.ErrLength},
		{"none and one y", nil, nums(1), api.ErrLength, api.ErrLength},
		{"as long as may be, and one less", most, most[1:], api.ErrLength, api.ErrLength},
		{"one less, and as long as may be", most[1:], most, api.ErrLength, api.ErrLength},
		{"unlike, and x not finite", nums(inf, hole), nums(1), api.ErrLength, api.ErrLength},
		{"unlike, and y not finite", nums(1), nums(-inf, 2), api.ErrLength, api.ErrLength},
		{"unlike, one not finite, and none", nums(hole), nil, api.ErrLength, api.ErrLength},
		{"unlike, and noughts", nums(0, 0), nums(0), api.ErrLength, api.ErrLength},
		{"a NaN in x", nums(1, hole, 3), nums(1, 2, 3), api.ErrOdd, api.ErrOdd},
		{"a NaN in y", nums(1, 2, 3), nums(1, 2, hole), api.ErrOdd, api.ErrOdd},
		{"+Inf in x", nums(inf, 2, 3), nums(1, 2, 3), api.ErrOdd, api.ErrOdd},
		{"+Inf in y", nums(1, 2, 3), nums(1, inf, 3), api.ErrOdd, api.ErrOdd},
		{"-Inf in x", nums(1, 2, -inf), nums(1, 2, 3), api.ErrOdd, api.ErrOdd},
		{"-Inf in y", nums(1, 2, 3), nums(-inf, 2, 3), api.ErrOdd, api.ErrOdd},
		{"not finite in both", nums(1, inf), nums(hole, -inf), api.ErrOdd, api.ErrOdd},
		{"not finite, at a nought's place", nums(0, 1), nums(inf, 2), api.ErrOdd, api.ErrOdd},
		{"one point, x not finite", nums(hole), nums(1), api.ErrOdd, api.ErrOdd},
		{"one point, y not finite", nums(1), nums(-inf), api.ErrOdd, api.ErrOdd},
		{"y not finite, all x the same", nums(1, 1), nums(1, inf), api.ErrOdd, api.ErrOdd},
		{"y not finite, noughts", nums(0, noughtBelow), nums(hole, 1), api.ErrOdd, api.ErrOdd},
		{"all x the same infinity", nums(inf, inf), nums(1, 2), api.ErrOdd, api.ErrOdd},
		{"the last x of as many as may be not finite", append(often(longest-1, 1), inf), most, api.ErrOdd, api.ErrOdd},
		{"the last y of as many as may be not finite", most, append(often(longest-1, 1), hole), api.ErrOdd, api.ErrOdd},
		{"no point", nil, nil, api.ErrNone, api.ErrNone},
		{"no point, not nil", nums(), nums(), api.ErrNone, api.ErrNone},
		{"one point", nums(1), nums(1), api.ErrNone, api.OK},
		{"one point at nought", nums(0), nums(1), api.ErrNone, api.ErrFlat},
		{"one point at -0", nums(noughtBelow), nums(noughtBelow), api.ErrNone, api.ErrFlat},
		{"all x the same", nums(1, 1), nums(2, 3), api.ErrFlat, api.OK},
		{"all x the same, and y flat", nums(1, 1, 1), nums(2, 2, 2), api.ErrFlat, api.OK},
		{"all x 0.1", often(7, 0.1), nums(1, 2, 3, 4, 5, 6, 7), api.ErrFlat, api.OK},
		{"all x the greatest", often(3, greatest), nums(greatest, least, 0), api.ErrFlat, api.OK},
		{"all x less the least", often(3, -least), nums(1, 2, 4), api.ErrFlat, api.OK},
		{"one point twice", nums(3, 3), nums(4, 4), api.ErrFlat, api.OK},
		{"noughts of both signs", nums(noughtBelow, 0), nums(1, 2), api.ErrFlat, api.ErrFlat},
		{"noughts", nums(0, 0, 0), nums(1, 2, 3), api.ErrFlat, api.ErrFlat},
		{"-0 alone", nums(noughtBelow, noughtBelow), nums(-1, -1), api.ErrFlat, api.ErrFlat},
		{"noughts alone, y too", nums(0, noughtBelow), nums(noughtBelow, 0), api.ErrFlat, api.ErrFlat},
		{"as many as may be, all x the same", most, slices.Concat(most[:longest-1], nums(2)), api.ErrFlat, api.OK},
		{"as many as may be, noughts", append(often(longest-1, 0), noughtBelow), most, api.ErrFlat, api.ErrFlat},
		{"none is amiss", nums(1, 2), nums(3, 4), api.OK, api.OK},
		{"none is amiss, as many as may be", append(often(longest-1, 1), 0), most, api.OK, api.OK},
		{"none is amiss, the least apart", nums(0, least), nums(1, 2), api.OK, api.OK},
		{"none is amiss, the last bit apart", nums(1, 1+0x1p-52), nums(1, 2), api.OK, api.OK},
		{"none is amiss, the greatest and its neighbour", nums(greatest, math.Nextafter(greatest, 0)), nums(1, 2), api.OK, api.OK},
	}
}

// P19.1: a mode that is none, a list that is too long, lists of unlike lengths, what is not finite, too few, no line: the first of these is told, and no number beside it.
func TestLineRefusesInOrder(t *testing.T) {
	for _, c := range refusals() {
		for _, mode := range noModes() {
			f, e := Line(c.x, c.y, mode)
			fits(t, c.name+", and a mode that is none", f, e, api.Fit{}, api.ErrArg)
		}
		for mode := range 5 {
			f, e := Line(c.x, c.y, mode)
			if c.line != api.OK {
				fits(t, c.name, f, e, api.Fit{}, c.line)
			} else if e != api.OK || f.N != len(c.x) {
				t.Errorf("%s, mode %d: %x, error %d", c.name, mode, f, e)
			}
		}
	}
}

// P19.3: the same, a place that is not finite being told where a number of the points would be.
func TestAtRefusesInOrder(t *testing.T) {
	for _, c := range refusals() {
		for _, at := range append(notFinite(), 0, 1, -greatest) {
			for _, mode := range noModes() {
				v, e := At(c.x, c.y, at, mode)
				refuses(t, c.name+", and a mode that is none", v, e, api.ErrArg)
			}
			if len(c.x) >= longest && at != inf && at != 1 {
				continue
			}
			for mode := range 5 {
				want := c.line
				if at-at != 0 && want != api.ErrLong && want != api.ErrLength {
					want = api.ErrOdd
				}
				v, e := At(c.x, c.y, at, mode)
				if want != api.OK {
					refuses(t, c.name, v, e, want)
				} else if e != api.OK {
					t.Errorf("%s, mode %d: %x, error %d", c.name, mode, v, e)
				}
			}
		}
	}
}

// P19.4: a mode that is none, a list that is too long, lists of unlike lengths, what is not finite, no point, squares of nought: the first of these is told.
func TestThroughRefusesInOrder(t *testing.T) {
	for _, c := range refusals() {
		for _, mode := range noModes() {
			v, e := Through(c.x, c.y, mode)
			refuses(t, c.name+", and a mode that is none", v, e, api.ErrArg)
		}
		for mode := range 5 {
			v, e := Through(c.x, c.y, mode)
			if c.through != api.OK {
				refuses(t, c.name, v, e, c.through)
			} else if e != api.OK {
				t.Errorf("%s, mode %d: %x, error %d", c.name, mode, v, e)
			}
		}
	}
}

// P19.1, P19.3, P19.4: what is not finite is refused at every place of either list, and as the place of At.
func TestWhatIsNotFinite(t *testing.T) {
	for _, odd := range notFinite() {
		for i := range 4 {
			l := nums(1, 2, 3, 4)
			l[i] = odd
			for mode := range 5 {
				for _, other := range [][]float64{{1, 0, 2, 1}, {0, noughtBelow, 0, 0}, l} {
					for _, c := range [][2][]float64{{l, other}, {other, l}} {
						f, e := Line(c[0], c[1], mode)
						fits(t, "Line", f, e, api.Fit{}, api.ErrOdd)
						v, e := At(c[0], c[1], 1, mode)
						refuses(t, "At", v, e, api.ErrOdd)
						v, e = Through(c[0], c[1], mode)
						refuses(t, "Through", v, e, api.ErrOdd)
					}
				}
			}
		}
		for mode := range 5 {
			v, e := At(nums(0, 1), nums(5, 5), odd, mode)
			refuses(t, "the place", v, e, api.ErrOdd)
		}
	}
}
