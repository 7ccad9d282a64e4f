package mean

import (
	"testing"

	"steelyard/api"
)

// weightedAs fails unless Weighted answers by every mode as P13.2 says of finite numbers, as many of either.
func weightedAs(t *testing.T, l, w []float64) {
	t.Helper()
	if total(w).m.Sign() == 0 {
		for mode := range 5 {
			x, e := Weighted(l, w, mode)
			refuses(t, "weights that come to nought", x, e, api.ErrNought)
		}
		return
	}
	for mode, is := range weightedBy(l, w) {
		x, e := Weighted(l, w, mode)
		if !sameBits(x, is) || e != api.OK {
			t.Errorf("Weighted of %d numbers, %x .. and %x .., mode %d: %x, error %d; want %x", len(l), brief(l), brief(w), mode, x, e, is)
		}
	}
}

// P13.2: by hand, by each mode.
func TestWeightedByHand(t *testing.T) {
	beyond, less := [5]float64{inf, greatest, inf, greatest, inf}, [5]float64{-inf, -greatest, -greatest, -inf, -inf}
	under, underNought := [5]float64{0, 0, least, 0, 0}, [5]float64{noughtBelow, noughtBelow, noughtBelow, -least, noughtBelow}
	third := [5]float64{0x1.5555555555555p-2, 0x1.5555555555555p-2, 0x1.5555555555556p-2, 0x1.5555555555555p-2, 0x1.5555555555555p-2}
	for _, c := range []struct {
		name string
		l, w []float64
		is   [5]float64
	}{
		{"one", nums(-2.5), nums(3), everyMode(-2.5)},
		{"one, less", nums(-2.5), nums(-3), everyMode(-2.5)},
		{"one, by the least", nums(0.1), nums(least), everyMode(0.1)},
		{"the greatest, by the greatest", nums(greatest), nums(greatest), everyMode(greatest)},
		{"the greatest, by less the greatest", nums(greatest), nums(-greatest), everyMode(greatest)},
		{"the least, by the least", nums(least), nums(least), everyMode(least)},
		{"less the least, by the least", nums(-least), nums(least), everyMode(-least)},
		{"-0", nums(noughtBelow), nums(1), everyMode(0)},
		{"-0 twice", nums(noughtBelow, noughtBelow), nums(2, 3), everyMode(0)},
		{"-0 by less", nums(noughtBelow), nums(-1), everyMode(0)},
		{"+0 by less", nums(0), nums(-1), everyMode(0)},
		{"what cancels", nums(3, -1), nums(1, 3), everyMode(0)},
		{"what cancels, weights below nought", nums(3, -1), nums(-1, -3), everyMode(0)},
		{"one weight of nought", nums(5, 7), nums(0, 2), everyMode(7)},
		{"one weight of -0", nums(5, 7), nums(2, noughtBelow), everyMode(5)},
		{"weights of both signs", nums(1, 2), nums(-1, 3), everyMode(2.5)},
		{"weights of both signs, more below", nums(1, 2), nums(1, -3), everyMode(2.5)},
		{"outside of its numbers", nums(1, 2), nums(5, -4), everyMode(-3)},
		{"1/3", nums(1, 0), nums(1, 2), third},
		{"1/3, weights below nought", nums(1, 0), nums(-1, -2), third},
		{"-1/3 by Up and Down", nums(-1, 0), nums(1, 2), [5]float64{-third[0], -third[0], -third[0], -third[2], -third[0]}},
		{"beyond: weights nearly cancel", nums(greatest, 0), nums(3, -2), beyond},
		{"beyond, less", nums(greatest, 0), nums(-3, 4), less},
		{"far beyond", nums(greatest, 0, 0), nums(greatest, -greatest, least), beyond},
		{"far below nought", nums(greatest, 0, 0), nums(-greatest, greatest, least), less},
		{"far below the least", nums(least, 0), nums(least, greatest), under},
		{"far below the least, less", nums(-least, 0), nums(least, greatest), underNought},
		{"far below the least, by less", nums(least, 0), nums(least, -greatest), underNought},
		{"half the least", nums(least, 0), nums(1, 1), [5]float64{0, 0, least, 0, least}},
		{"a middle", nums(1, 1+0x1p-52), nums(0.1, 0.1), [5]float64{1, 1, 1 + 0x1p-52, 1, 1 + 0x1p-52}},
		{"just above a middle", nums(1, 1+0x1p-52), nums(1, 1+0x1p-52), [5]float64{1 + 0x1p-52, 1, 1 + 0x1p-52, 1, 1 + 0x1p-52}},
		{"just below a middle", nums(1, 1+0x1p-52), nums(1+0x1p-52, 1), [5]float64{1, 1, 1 + 0x1p-52, 1, 1}},
		{"just below twice the least", nums(greatest, least), nums(least, greatest), [5]float64{2 * least, least, 2 * least, least, 2 * least}},
		{"weights that cancel but for the least", nums(1, 2, 5), nums(greatest, -greatest, least), less},
		{"weights that cancel but for less the least", nums(1, 2, 5), nums(greatest, -greatest, -least), beyond},
	} {
		for mode, is := range c.is {
			x, e := Weighted(c.l, c.w, mode)
			answers(t, c.name, x, e, is, api.OK)
		}
		weightedAs(t, c.l, c.w)
	}
}

// P13.2: each two edges, with each two of some weights.
func TestWeightedOfEdges(t *testing.T) {
	row := edges()
	for i, x := range row {
		for j, y := range row {
			weightedAs(t, nums(x), nums(y))
			weightedAs(t, nums(x, y), nums(row[(3*i+j)%len(row)], row[(i+5*j+1)%len(row)]))
			weightedAs(t, nums(x, y, 1), nums(y, x, least))
		}
	}
	eachList(4, few()[:8], func(l []float64) { weightedAs(t, l[:2], l[2:]) })
}

// P13.2: lists of many lengths, of like sizes and of all; weights that cancel, or nearly.
func TestWeightedOfMany(t *testing.T) {
	d := dice(134)
	for i := range 250 {
		n := 1 + i%60
		weightedAs(t, d.list(n, d.near()), d.list(n, d.near()))
		weightedAs(t, d.list(n, d.finite), d.list(n, d.finite))
		weightedAs(t, d.list(n, d.near()), d.list(n, func() float64 { return float64(d.below(9) - 2) }))
		w := d.list(n, d.finite)
		w = d.shuffled(append(w, turnedAll(w)...))
		l := d.list(2*n+1, d.finite)
		weightedAs(t, l[:2*n], w)
		weightedAs(t, l, append(w, d.finite()))
		weightedAs(t, append(w, d.finite()), l)
	}
}

// P13.2: lists of MaxList numbers are taken, whatever they come to.
func TestWeightedOfLongLists(t *testing.T) {
	for _, c := range []struct {
		name string
		l, w []float64
		is   [5]float64
	}{
		{"the greatest by the greatest", often(longest, greatest), often(longest, greatest), everyMode(greatest)},
		{"the greatest by less the greatest", often(longest, greatest), often(longest, -greatest), everyMode(greatest)},
		{"the least by the least", often(longest, least), often(longest, least), everyMode(least)},
		{"-0 by 1", often(longest, noughtBelow), often(longest, 1), everyMode(0)},
		{"one that counts", append(often(longest-1, greatest), 7), append(often(longest-1, 0), -0.1), everyMode(7)},
	} {
		for mode, is := range c.is {
			x, e := Weighted(c.l, c.w, mode)
			answers(t, c.name, x, e, is, api.OK)
		}
	}
	d := dice(135)
	near := d.near()
	weightedAs(t, d.list(longest, near), d.list(longest, near))
}
