package fit

import (
	"math"
	"slices"
	"testing"

	"steelyard/api"
)

// atAs fails unless At answers by every mode as P19.3 says of two or more finite points and finite places.
func atAs(t *testing.T, x, y []float64, places ...float64) {
	t.Helper()
	m := modelOf(x, y)
	for _, place := range places {
		if m.upright() {
			for mode := range 5 {
				v, e := At(x, y, place, mode)
				refuses(t, "points above each other", v, e, api.ErrFlat)
			}
			continue
		}
		for mode, is := range m.at(place) {
			v, e := At(x, y, place, mode)
			if !sameBits(v, is) || e != api.OK {
				t.Errorf("At %x of %d points, %x .. and %x .., mode %d: %x, error %d; want %x", place, len(x), brief(x), brief(y), mode, v, e, is)
			}
		}
	}
}

// P19.3: by hand, by each mode; what is just nought is +0.
func TestAtByHand(t *testing.T) {
	// The line that falls from 1 at nought to 0 at three.
	x, y := nums(0, 3), nums(1, 0)
	// One that climbs half a step of the greatest numbers at each, and is the greatest one at nought.
	endX, endY := nums(-2, 0), nums(greatest-0x1p971, greatest)
	for _, c := range []struct {
		name string
		x, y []float64
		at   float64
		is   [5]float64
	}{
		{"on a line", nums(0, 1, 2), nums(1, 3, 5), 10, everyMode(21)},
		{"on a line, below nought", nums(0, 1, 2), nums(1, 3, 5), -10, everyMode(-19)},
		{"at +0", nums(0, 1, 2), nums(0, 1, 1), 0, sixth},
		{"at -0", nums(0, 1, 2), nums(0, 1, 1), noughtBelow, sixth},
		{"beside one", nums(0, 1, 2), nums(0, 1, 1), 1, twoThirds},
		{"beside one, at nought", nums(0, 1, 2), nums(0, 1, 1), -1, lessThird},
		{"1/3", x, y, 2, third},
		{"-1/3", x, y, 4, lessThird},
		{"2/3", x, y, 1, twoThirds},
		{"just nought", x, y, 3, none},
		{"just nought, the other way", x, turnedAll(y), 3, none},
		{"-1", x, y, 6, everyMode(-1)},
		{"flat", nums(1, 2), nums(5, 5), greatest, everyMode(5)},
		{"flat, noughts", nums(1, 2), nums(noughtBelow, 0), -7, none},
		{"a slope beyond all numbers, on a point", nums(0, least), nums(0, greatest), least, everyMode(greatest)},
		{"a slope beyond all numbers, at nought", nums(0, least), nums(0, greatest), noughtBelow, none},
		{"a slope beyond all numbers, on the other side", nums(0, least), nums(0, greatest), -least, everyMode(-greatest)},
		{"a slope beyond all numbers, further", nums(0, least), nums(0, greatest), 2 * least, beyond()},
		{"a slope beyond all numbers, further down", nums(0, least), nums(0, greatest), -2 * least, beyondBelow()},
		{"a slope beyond all numbers, far", nums(0, least), nums(0, greatest), greatest, beyond()},
		{"a cut beyond all numbers", nums(1, 2), nums(greatest, -greatest), 1, everyMode(greatest)},
		{"a cut beyond all numbers, in the middle", nums(1, 2), nums(greatest, -greatest), 1.5, none},
		{"a slope far below the least", nums(-greatest, greatest), nums(-2*least, 2*least), greatest, everyMode(2 * least)},
		{"a slope far below the least, half the way", nums(-greatest, greatest), nums(-2*least, 2*least), greatest / 2, everyMode(least)},
		{"a slope far below the least, close to nought", nums(-greatest, greatest), nums(-2*least, 2*least), 1, under()},
		{"a slope far below the least, close to nought, below", nums(-greatest, greatest), nums(-2*least, 2*least), -1, underBelow()},
		{"half the least", nums(0, 2), nums(0, 1), least, tie(0, least)},
		{"less half the least", nums(0, 2), nums(0, 1), -least, tie(noughtBelow, -least)},
		{"half of thrice the least", nums(0, 2), nums(0, 1), 3 * least, tie(least, 2*least)},
		{"the least by the greatest", nums(0, 1), nums(0, least), greatest, everyMode(0x1.fffffffffffffp-51)},
		{"the greatest", endX, endY, 0, everyMode(greatest)},
		{"beyond by less than half a step", endX, endY, 1 - 0x1p-53, byModes(greatest, greatest, inf)},
		{"beyond by half a step", endX, endY, 1, beyond()},
		{"beyond by half a step, below nought", endX, turnedAll(endY), 1, beyondBelow()},
		{"half a step less than the greatest", endX, endY, -1, tie(greatest-0x1p971, greatest)},
	} {
		for mode, is := range c.is {
			v, e := At(c.x, c.y, c.at, mode)
			answers(t, c.name, v, e, is, api.OK)
		}
		atAs(t, c.x, c.y, c.at)
	}
}

// P19.3: it is the exact line's value, not that of the rounded Slope and Cut, not even where these are put together without a further rounding.
func TestAtIsTheExactLine(t *testing.T) {
	d := dice(197)
	unlike := 0
	for range 300 {
		n := 2 + d.below(9)
		small := func() float64 { return float64(d.below(200) - 100) }
		x, y, at := d.list(n, small), d.list(n, small), small()
		if oneValue(x) {
			continue
		}
		f, _ := Line(x, y, api.Even)
		usual := ratioOnce(of(f.Cut).plus(of(f.Slope).times(of(at))), whole(1))
		v, _ := At(x, y, at, api.Even)
		if v != usual[api.Even] {
			unlike++
		}
		atAs(t, x, y, at)
	}
	if unlike < 50 {
		t.Errorf("only %d lines tell the exact one from the rounded one", unlike)
	}
	// Here they are far off: a third is rounded at each, and nothing but what was lost is left.
	v, e := At(nums(0, 3), nums(1, 0), 3, api.Even)
	answers(t, "At 3", v, e, 0, api.OK)
	v, e = At(nums(0, 3), nums(0, 1), 0x1p-1000*3, api.Even)
	answers(t, "At thrice a power of two", v, e, 0x1p-1000, api.OK)
	v, e = At(nums(0, 3, 3), nums(-0x1p60, -0x1p60+256, -0x1p60+256), 3*0x1p52, api.Even)
	answers(t, "At where the line cuts nought", v, e, 0, api.OK)
}

// P19.3: points and places of every kind.
func TestAtOfEveryKind(t *testing.T) {
	some := nums(0, -1, least, greatest)
	eachList(4, some, func(l []float64) { atAs(t, l[:2], l[2:], 0, noughtBelow, least, -1, 3, greatest, -greatest) })
	for _, place := range edges() {
		atAs(t, nums(0, 1, 2), nums(0, 1, 1), place)
		atAs(t, nums(-greatest, least, greatest), nums(3, -greatest, 0.1), place)
		atAs(t, nums(least, 0), nums(-least, 7), place)
		atAs(t, nums(2, 2), nums(-1, 7), place)
	}
	d := dice(198)
	for n := 2; n < 50; n++ {
		for _, x := range d.throws() {
			for _, y := range d.throws() {
				a, b := d.list(n, x), d.list(n, y)
				atAs(t, a, b, x(), y(), d.finite(), a[n/2])
			}
		}
	}
}

// P19.3: values just in the middle of two numbers, and a little above and below.
func TestAtMiddles(t *testing.T) {
	d := dice(199)
	for range 300 {
		great, one, in, out := d.halfway()
		in, out = in/2, out/2
		mid := float64(d.below(2000) - 1000)
		x, y := nums(mid-1, mid+1), nums(one, great)
		for mode, is := range tie(in, out) {
			v, e := At(x, y, mid, mode)
			answers(t, "at a middle", v, e, is, api.OK)
			v, e = At(x, turnedAll(y), mid, turnedMode(mode))
			answers(t, "at a middle below nought", v, e, -is, api.OK)
		}
		x = nums(-1, 1)
		for mode, is := range byModes(out, in, out) {
			v, e := At(x, y, least, mode)
			answers(t, "a little above", v, e, is, api.OK)
		}
		for mode, is := range byModes(in, in, out) {
			v, e := At(x, y, -least, mode)
			answers(t, "a little below", v, e, is, api.OK)
		}
		atAs(t, x, y, 0, least, -least, math.Nextafter(mid, inf))
	}
}

// P19.2, P19.3: at nought of either sign it is the Cut.
func TestAtNoughtIsTheCut(t *testing.T) {
	d := dice(200)
	for n := 2; n < 60; n++ {
		x, y := d.list(n, d.finite), d.list(n, d.finite)
		for mode := range 5 {
			f, e := Line(x, y, mode)
			for _, nought := range nums(0, noughtBelow) {
				v, g := At(x, y, nought, mode)
				answers(t, "at nought", v, g, f.Cut, e)
			}
		}
	}
}

// P19.3: lists of MaxList numbers are taken.
func TestAtOfLongLists(t *testing.T) {
	halves := func(x, y float64) []float64 { return slices.Concat(often(longest/2, x), often(longest/2, y)) }
	for _, c := range []struct {
		name string
		x, y []float64
		at   float64
		is   float64
	}{
		{"greatest, either sign", halves(greatest, -greatest), halves(-greatest, greatest), -greatest, greatest},
		{"least and greatest", halves(least, -least), halves(greatest, -greatest), -least, -greatest},
		{"greatest and least", halves(greatest, -greatest), halves(least, -least), greatest, least},
		{"flat", append(often(longest-1, 2), 3), often(longest, -0.1), greatest, -0.1},
	} {
		for mode := range 5 {
			v, e := At(c.x, c.y, c.at, mode)
			answers(t, c.name, v, e, c.is, api.OK)
		}
	}
	d := dice(201)
	atAs(t, d.list(longest, d.near()), d.list(longest, d.near()), d.finite())
}
