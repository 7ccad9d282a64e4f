package fit

import (
	"slices"
	"testing"

	"steelyard/api"
)

// throughAs fails unless Through answers by every mode as P19.4 says of one or more finite points.
func throughAs(t *testing.T, x, y []float64) {
	t.Helper()
	row, goes := throughBy(x, y)
	for mode, is := range row {
		want := api.OK
		if !goes {
			is, want = 0, api.ErrFlat
		}
		v, e := Through(x, y, mode)
		if !sameBits(v, is) || e != want {
			t.Errorf("Through of %d points, %x .. and %x .., mode %d: %x, error %d; want %x, error %d", len(x), brief(x), brief(y), mode, v, e, is, want)
		}
	}
}

// P19.4: by hand, by each mode; what is just nought is +0.
func TestThroughByHand(t *testing.T) {
	for _, c := range []struct {
		name string
		x, y []float64
		is   [5]float64
	}{
		{"one point", nums(2), nums(3), everyMode(1.5)},
		{"one point, below nought", nums(-2), nums(3), everyMode(-1.5)},
		{"on a line", nums(1, 2), nums(2, 4), everyMode(2)},
		{"on one that doesn't go through nought", nums(1, 2), nums(1, 1), ratioOnce(whole(3), whole(5))},
		{"1/3", nums(3), nums(1), third},
		{"-1/3", nums(3), nums(-1), lessThird},
		{"1/3, of signs that are like", nums(-3), nums(-1), third},
		{"1/3, and points at nought", nums(0, 3, noughtBelow), nums(5, 1, greatest), third},
		{"all x have the same value", nums(1, 1, 1), nums(0, 0, 1), third},
		{"no slope", nums(1, 2), nums(0, noughtBelow), none},
		{"no slope, -0", nums(1, -2), nums(noughtBelow, noughtBelow), none},
		{"what cancels", nums(1, 1), nums(5, -5), none},
		{"great ones that cancel", nums(greatest, greatest, 1), nums(greatest, -greatest, noughtBelow), none},
		{"great ones that cancel but for the least", nums(0x1p500, 0x1p500, least), nums(greatest, -greatest, least), under()},
		{"great ones that cancel but for less the least", nums(0x1p500, 0x1p500, least), nums(greatest, -greatest, -least), underBelow()},
		{"the greatest by itself", nums(greatest, -greatest), nums(greatest, -greatest), everyMode(1)},
		{"the least by itself", nums(least), nums(-least), everyMode(-1)},
		{"the least by twice itself", nums(2 * least), nums(least), everyMode(0.5)},
		{"beyond", nums(least), nums(greatest), beyond()},
		{"beyond, below nought", nums(least), nums(-greatest), beyondBelow()},
		{"beyond by half a step", nums(0.5, 0.5), nums(greatest, 0x1p970), beyond()},
		{"beyond by less", nums(0.5, 0.5), nums(greatest, 0x1.fffffffffffffp969), byModes(greatest, greatest, inf)},
		{"far below the least", nums(greatest), nums(least), under()},
		{"far below the least, below nought", nums(-greatest), nums(least), underBelow()},
		{"half the least", nums(1, 1), nums(0, least), tie(0, least)},
		{"less half the least", nums(1, -1), nums(0, least), tie(noughtBelow, -least)},
		{"half of thrice the least", nums(2), nums(3 * least), tie(least, 2*least)},
	} {
		for mode, is := range c.is {
			v, e := Through(c.x, c.y, mode)
			answers(t, c.name, v, e, is, api.OK)
		}
		throughAs(t, c.x, c.y)
	}
}

// P19.4: points of every kind, also such as no line goes through.
func TestThroughOfEveryKind(t *testing.T) {
	row := edges()
	for i, a := range row {
		for j, b := range row {
			throughAs(t, nums(a), nums(b))
			throughAs(t, nums(a, b), nums(row[(3*i+j)%len(row)], row[(i+5*j+1)%len(row)]))
		}
	}
	eachList(4, nums(0, noughtBelow, least, -1, greatest), func(l []float64) { throughAs(t, l[:2], l[2:]) })
	d := dice(202)
	for n := 1; n < 60; n++ {
		for _, x := range d.throws() {
			for _, y := range d.throws() {
				throughAs(t, d.list(n, x), d.list(n, y))
			}
		}
	}
}

// P19.4: slopes just in the middle of two numbers, and a little above and below.
func TestThroughAtMiddles(t *testing.T) {
	d := dice(203)
	for range 300 {
		great, one, in, out := d.halfway()
		in, out = in/2, out/2
		for mode, is := range tie(in, out) {
			v, e := Through(nums(1, 1), nums(one, great), mode)
			answers(t, "at a middle", v, e, is, api.OK)
			v, e = Through(nums(-1, 1, 0), nums(one, -great, 3), turnedMode(mode))
			answers(t, "at a middle below nought", v, e, -is, api.OK)
		}
		ones := nums(1, 1, 1, 1)
		for mode, is := range byModes(out, in, out) {
			v, e := Through(ones, nums(2*one, 2*great, least, 0), mode)
			answers(t, "a little above", v, e, is, api.OK)
		}
		for mode, is := range byModes(in, in, out) {
			v, e := Through(ones, nums(2*one, 2*great, noughtBelow, -least), mode)
			answers(t, "a little below", v, e, is, api.OK)
		}
	}
}

// P19.4: lists of MaxList numbers are taken, whatever they come to.
func TestThroughOfLongLists(t *testing.T) {
	halves := func(x, y float64) []float64 { return slices.Concat(often(longest/2, x), often(longest/2, y)) }
	for _, c := range []struct {
		name string
		x, y []float64
		is   [5]float64
	}{
		{"the greatest", often(longest, greatest), often(longest, greatest), everyMode(1)},
		{"the greatest, of both signs", often(longest, greatest), halves(greatest, -greatest), none},
		{"the least by the greatest", often(longest, greatest), often(longest, -least), underBelow()},
		{"the greatest by the least", often(longest, least), often(longest, greatest), beyond()},
		{"one among noughts", append(often(longest-1, noughtBelow), 3), often(longest, 1), third},
	} {
		for mode, is := range c.is {
			v, e := Through(c.x, c.y, mode)
			answers(t, c.name, v, e, is, api.OK)
		}
	}
	d := dice(204)
	throughAs(t, d.list(longest, d.near()), d.list(longest, d.finite))
}
