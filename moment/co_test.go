package moment

import (
	"slices"
	"testing"

	"steelyard/api"
)

// coAs fails unless Co answers by either less and every mode as P14.3 says of finite numbers, as many of either.
func coAs(t *testing.T, a, b []float64) {
	t.Helper()
	for less := range 2 {
		if len(a) <= less {
			for mode := range 5 {
				x, e := Co(a, b, less, mode)
				refuses(t, "too few", x, e, api.ErrNone)
			}
			continue
		}
		for mode, is := range coBy(a, b, less) {
			x, e := Co(a, b, less, mode)
			if !sameBits(x, is) || e != api.OK {
				t.Errorf("Co of %d numbers, %x .. and %x .., less %d, mode %d: %x, error %d; want %x", len(a), brief(a), brief(b), less, mode, x, e, is)
			}
		}
	}
}

// P14.3: by hand, by each mode.
func TestCoByHand(t *testing.T) {
	third := byModes(0x1.5555555555555p-2, 0x1.5555555555555p-2, 0x1.5555555555556p-2)
	for _, c := range []struct {
		name string
		a, b []float64
		less int
		is   [5]float64
	}{
		{"one", nums(3), nums(-greatest), 0, everyMode(0)},
		{"two", nums(1, 2), nums(3, 5), 0, everyMode(0.5)},
		{"two, less 1", nums(1, 2), nums(3, 5), 1, everyMode(1)},
		{"two, below nought", nums(1, 2), nums(5, 3), 0, everyMode(-0.5)},
		{"two, below nought, less 1", nums(1, 2), nums(5, 3), 1, everyMode(-1)},
		{"three, less 1", nums(1, 2, 3), nums(2, 4, 7), 1, everyMode(2.5)},
		{"a list that doesn't vary", nums(1, 2, 3), nums(5, 5, 5), 0, everyMode(0)},
		{"another list that doesn't vary", nums(0, noughtBelow, 0), nums(5, greatest, -5), 1, everyMode(0)},
		{"what cancels", nums(1, 2, 3), nums(1, 0, 1), 0, everyMode(0)},
		{"great ones that cancel", nums(greatest, 0, -greatest), nums(greatest, greatest, greatest), 0, everyMode(0)},
		{"great and small ones that cancel", nums(greatest, -greatest, 0, 0), nums(0, 0, least, -least), 1, everyMode(0)},
		{"noughts", nums(0, noughtBelow), nums(noughtBelow, 0), 0, everyMode(0)},
		{"1/3", nums(0, 0, 1), nums(0, 0, 1), 1, third},
		{"-1/3", nums(0, 0, 1), nums(1, 1, 0), 1, [5]float64{-third[0], -third[1], -third[3], -third[2], -third[4]}},
		{"far from nought", nums(0x1p52, 0x1p52+1), nums(-0x1p53+1, -0x1p53+3), 0, everyMode(0.5)},
		{"beyond", nums(greatest, -greatest), nums(greatest, -greatest), 0, beyond()},
		{"beyond, below nought", nums(greatest, -greatest), nums(-greatest, greatest), 1, beyondBelow()},
		{"the greatest", nums(greatest, -greatest), nums(1, -1), 0, everyMode(greatest)},
		{"less the greatest", nums(greatest, -greatest), nums(-1, 1), 0, everyMode(-greatest)},
		{"twice the greatest", nums(greatest, -greatest), nums(1, -1), 1, beyond()},
		{"far below the least", nums(least, -least), nums(least, -least), 0, under()},
		{"far below the least, below nought", nums(least, -least), nums(-least, least), 0, underBelow()},
		{"the least", nums(least, -least), nums(1, -1), 0, everyMode(least)},
		{"half the least", nums(least, 0), nums(1, -1), 0, [5]float64{0, 0, least, 0, least}},
		{"less half the least", nums(least, 0), nums(-1, 1), 0, [5]float64{noughtBelow, noughtBelow, noughtBelow, -least, -least}},
		{"a quarter of the least", nums(least, 0), nums(1, 0), 0, under()},
		{"less a quarter of the least", nums(0, least), nums(1, 0), 0, underBelow()},
		{"the greatest by the least", nums(greatest, -greatest), nums(least, -least), 0, everyMode(0x1.fffffffffffffp-51)},
		{"great ones cancel but for the least", nums(greatest, -greatest, 1, -1), nums(1, 1, least, -least), 1, byModes(least, 0, least)},
	} {
		for mode, is := range c.is {
			x, e := Co(c.a, c.b, c.less, mode)
			answers(t, c.name, x, e, is, api.OK)
			x, e = Co(c.b, c.a, c.less, mode)
			answers(t, c.name+", the other way round", x, e, is, api.OK)
		}
		coAs(t, c.a, c.b)
	}
}

// P14.3: two lists of up to two numbers of some, in all ways; all edges, two and two.
func TestCoOfEveryKind(t *testing.T) {
	some := nums(0, noughtBelow, least, -least, 1, -1, greatest)
	coAs(t, nil, nil)
	for n := 1; n < 3; n++ {
		eachList(2*n, some, func(l []float64) { coAs(t, l[:n], l[n:]) })
	}
	row := edges()
	for i, x := range row {
		for j, y := range row {
			coAs(t, nums(x, y, 1), nums(row[(3*i+j)%len(row)], row[(i+5*j+1)%len(row)], y))
		}
	}
}

// P14.3: lists of many lengths, of like sizes and of all, close together, at both ends of what a product may be; such that cancel, or nearly.
func TestCoOfMany(t *testing.T) {
	d := dice(161)
	for n := range 60 {
		coAs(t, d.list(n, d.near()), d.list(n, d.near()))
		coAs(t, d.list(n, d.finite), d.list(n, d.finite))
		coAs(t, d.list(n, d.close()), d.list(n, d.close()))
		size := d.below(2000) - 1000
		for _, end := range []int{1023, -1075} {
			other := min(max(end-size, -1074), 1023)
			coAs(t, d.list(n%9, func() float64 { return d.sized(size, size) }), d.list(n%9, func() float64 { return d.sized(other, other) }))
		}
		a, b := d.apart(n)
		coAs(t, a, b)
		coAs(t, append(a, d.finite()), append(b, d.finite()))
	}
}

// P14.3: common spreads just in the middle of two numbers, and a little above and below, by each mode.
func TestCoAtMiddles(t *testing.T) {
	d := dice(162)
	for range 150 {
		// A product of two odd numbers that has 54 bits.
		x, y := 94906267+2*d.below(5000000), 94906267+2*d.below(5000000)
		in := float64(uint64(x*y) - 1)
		out := in + 2
		a, b := nums(float64(x), -float64(x)), nums(float64(y), -float64(y))
		tied(t, a, b, [5]float64{even(in, out), in, out, in, out})
		// Twice as great, and four times as many, two of which go a little together, or a little apart.
		a, b = nums(2*a[0], 2*a[1], least, -least, 0, 0, 0, 0), nums(2*b[0], 2*b[1], least, -least, 0, 0, 0, 0)
		tied(t, a, b, [5]float64{out, in, out, in, out})
		b[2], b[3] = -least, least
		tied(t, a, b, [5]float64{in, in, out, in, in})
	}
}

// tied fails unless Co of both is this, and with one of them turned this below nought, by the mode that is turned likewise.
func tied(t *testing.T, a, b []float64, want [5]float64) {
	t.Helper()
	for mode, is := range want {
		x, e := Co(a, b, 0, mode)
		answers(t, "at a middle", x, e, is, api.OK)
		x, e = Co(a, turnedAll(b), 0, turnedMode(mode))
		answers(t, "at a middle below nought", x, e, -is, api.OK)
	}
}

// P14.3: lists of MaxList numbers are taken, whatever they come to.
func TestCoOfLongLists(t *testing.T) {
	half := slices.Concat(often(longest/2, greatest), often(longest/2, -greatest))
	quarters := slices.Concat(often(longest/4, 1), often(longest/2, -1), often(longest/4, 1))
	for _, c := range []struct {
		name string
		a, b []float64
		is   [5]float64
	}{
		{"2^16 of the greatest", often(longest, greatest), half, everyMode(0)},
		{"halves and quarters", half, quarters, everyMode(0)},
		{"halves", half, turnedAll(half), beyondBelow()},
		{"one place", append(often(longest-1, 0), 0x1p16), append(often(longest-1, 0), -0x1p16), everyMode(-65535)},
	} {
		for _, mode := range []int{api.Up, api.Down} {
			x, e := Co(c.a, c.b, 0, mode)
			answers(t, c.name, x, e, c.is[mode], api.OK)
		}
	}
	d := dice(163)
	a, b := d.list(longest, d.near()), d.list(longest, d.finite)
	for less := range 2 {
		x, e := Co(a, b, less, api.Up)
		answers(t, "MaxList numbers", x, e, coBy(a, b, less)[api.Up], api.OK)
	}
}
