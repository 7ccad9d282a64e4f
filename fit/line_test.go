package fit

import (
	"math"
	"slices"
	"testing"

	"steelyard/api"
)

// lineAs fails unless Line answers by every mode as P19.1 and P19.2 say of two or more finite points.
func lineAs(t *testing.T, x, y []float64) {
	t.Helper()
	m := modelOf(x, y)
	if m.upright() {
		for mode := range 5 {
			f, e := Line(x, y, mode)
			fits(t, "points above each other", f, e, api.Fit{}, api.ErrFlat)
		}
		return
	}
	for mode, is := range m.lines() {
		f, e := Line(x, y, mode)
		if !sameFit(f, is) || e != api.OK {
			t.Errorf("Line of %d points, %x .. and %x .., mode %d: %x, error %d; want %x", len(x), brief(x), brief(y), mode, f, e, is)
		}
	}
}

// drawn is a line by hand, by each mode.
type drawn struct {
	name                   string
	x, y                   []float64
	slope, cut, told, left [5]float64
}

// check fails unless Line draws it so.
func (d drawn) check(t *testing.T) {
	t.Helper()
	for mode := range 5 {
		is := api.Fit{N: len(d.x), Slope: d.slope[mode], Cut: d.cut[mode], Told: d.told[mode], Left: d.left[mode]}
		f, e := Line(d.x, d.y, mode)
		fits(t, d.name, f, e, is, api.OK)
	}
	lineAs(t, d.x, d.y)
	lineAs(t, d.x, turnedAll(d.y))
	lineAs(t, turnedAll(d.x), d.y)
}

// What many lines by hand have.
var (
	none      = everyMode(0)
	all       = everyMode(1)
	third     = byModes(0x1.5555555555555p-2, 0x1.5555555555555p-2, 0x1.5555555555556p-2)
	lessThird = byModes(-0x1.5555555555555p-2, -0x1.5555555555555p-2, -0x1.5555555555556p-2)
	sixth     = byModes(0x1.5555555555555p-3, 0x1.5555555555555p-3, 0x1.5555555555556p-3)
	twoThirds = byModes(0x1.5555555555555p-1, 0x1.5555555555555p-1, 0x1.5555555555556p-1)
)

// P19.2: by hand, by each mode; what is just nought is +0, and where y is flat Told is 1.
func TestLineByHand(t *testing.T) {
	for _, d := range []drawn{
		{"two points", nums(0, 1), nums(0, 1), all, none, all, none},
		{"two points, far", nums(-3, 5), nums(7, -9), everyMode(-2), everyMode(1), all, none},
		{"on a line", nums(0, 1, 2), nums(1, 3, 5), everyMode(2), everyMode(1), all, none},
		{"on a line that falls", nums(3, 1, 2), nums(1, 5, 3), everyMode(-2), everyMode(7), all, none},
		{"beside one", nums(0, 1, 2), nums(0, 1, 1), everyMode(0.5), sixth, everyMode(0.75), sixth},
		{"a slope of 1/3", nums(0, 3), nums(0, 1), third, none, all, none},
		{"a slope of -1/3", nums(0, 3), nums(1, 0), lessThird, everyMode(1), all, none},
		{"a slope of 1/3, one point thrice", nums(0, 3, 3, 3), nums(0, 1, 1, 1), third, none, all, none},
		{"a cut of 1/3", nums(-1, 2), nums(0, 1), third, third, all, none},
		{"a cut of -1/3", nums(2, -1), nums(-1, 0), lessThird, lessThird, all, none},
		{"no slope, nothing told", nums(-1, 0, 1), nums(1, 0, 1), none, twoThirds, none, twoThirds},
		{"no slope, -0 at nought", nums(-1, noughtBelow, 1), nums(1, noughtBelow, 1), none, twoThirds, none, twoThirds},
		{"no cut, all of it just nought", nums(-1, 0, 1), nums(-1, 0, 1), all, none, all, none},
		{"noughts of both signs in y", nums(1, 2), nums(noughtBelow, 0), none, none, all, none},
		{"-0 alone in y", nums(1, 2), nums(noughtBelow, noughtBelow), none, none, all, none},
		{"noughts of both signs in x", nums(noughtBelow, 0, 1), nums(1, 1, 2), everyMode(1), everyMode(1), all, none},
		{"flat", nums(1, 2, 4, 9), often(4, 5), none, everyMode(5), all, none},
		{"flat, below nought", nums(1, 2, 4, 9), often(4, -5), none, everyMode(-5), all, none},
		{"flat, 0.1", nums(0.3, 0.7, 1e300), often(3, 0.1), none, everyMode(0.1), all, none},
		{"flat, the greatest", nums(greatest, 2, -greatest), often(3, greatest), none, everyMode(greatest), all, none},
		{"flat, the least", nums(least, 0), often(2, least), none, everyMode(least), all, none},
	} {
		d.check(t)
	}
}

// P19.2: by hand, of numbers that cancel, near the greatest and of the least ones.
func TestLineAtTheEnds(t *testing.T) {
	thirdOfGreatest := ratioOnce(of(greatest), whole(3))
	for _, d := range []drawn{
		{"far from nought", nums(0x1p53, 0x1p53+2), nums(1, 2), everyMode(0.5), everyMode(1 - 0x1p52), all, none},
		{"far from nought, both", nums(0x1p53, 0x1p53+2, 0x1p53+4), nums(-0x1p60, -0x1p60+256, -0x1p60+512), everyMode(128), everyMode(-0x1p61), all, none},
		{"great ones", nums(0, 0x1p1000), nums(0, 0x1p1000), all, none, all, none},
		{"the greatest both ways", nums(-greatest, greatest), nums(greatest, -greatest), everyMode(-1), none, all, none},
		{"the least ones", nums(least, 2*least, 3*least), nums(least, 3*least, 5*least), everyMode(2), everyMode(-least), all, none},
		{"the least x", nums(0, least), nums(3, 3+0x1p-51), everyMode(0x1p1023), everyMode(3), all, none},
		{"a slope far beyond", nums(0, least), nums(0, greatest), beyond(), none, all, none},
		{"a slope far beyond, below nought", nums(0, least), nums(0, -greatest), beyondBelow(), none, all, none},
		{"a slope beyond by half a step", nums(-0.5, 0.5), nums(-0x1p970, greatest), beyond(), tie(0x1.ffffffffffffep1022, 0x1.fffffffffffffp1022), all, none},
		{"a slope beyond by less", nums(-0.5, 0.5), nums(-0x1.fffffffffffffp969, greatest), byModes(greatest, greatest, inf), byModes(0x1.fffffffffffffp1022, 0x1.ffffffffffffep1022, 0x1.fffffffffffffp1022), all, none},
		{"the greatest slope", nums(-1, 1), nums(-greatest, greatest), everyMode(greatest), none, all, none},
		{"a cut beyond", nums(1, 2), nums(greatest, -greatest), beyondBelow(), beyond(), all, none},
		{"half the least", nums(-1, 1), nums(0, least), tie(0, least), tie(0, least), all, none},
		{"less half the least", nums(-1, 1), nums(-least, 0), tie(0, least), tie(noughtBelow, -least), all, none},
		{"half of thrice the least", nums(-1, 1), nums(3*least, 0), tie(-least, -2*least), tie(least, 2*least), all, none},
		{"a slope far below the least", nums(-greatest, greatest), nums(0, 2*least), under(), everyMode(least), all, none},
		{"a slope far below the least, below nought", nums(-greatest, greatest), nums(2*least, 0), underBelow(), everyMode(least), all, none},
		{"left far beyond", nums(-1, 0, 1), nums(greatest, -greatest, greatest), none, thirdOfGreatest, none, beyond()},
		{"left far below the least", nums(-1, 0, 1), nums(least, 0, least), none, byModes(least, 0, least), none, under()},
		{"told far below the least", nums(-1, 0, 1), nums(-1, 0x1p600, 1), all, ratioOnce(of(0x1p600), whole(3)), under(), beyond()},
		{"told just not all", nums(-1, 0, 1), nums(-1, 0x1p-600, 1), all, ratioOnce(of(0x1p-600), whole(3)), byModes(1, 1-0x1p-53, 1), under()},
		{"told just not all, of the greatest", nums(-1, 0, 1), nums(-greatest, least, greatest), everyMode(greatest), byModes(0, 0, least), byModes(1, 1-0x1p-53, 1), under()},
	} {
		d.check(t)
	}
}

// P19.1, P19.2: two points of some numbers, in all ways; three of all edges.
func TestLineOfEveryKind(t *testing.T) {
	some := nums(0, noughtBelow, least, -1, 0.1, greatest)
	eachList(4, some, func(l []float64) { lineAs(t, l[:2], l[2:]) })
	row := edges()
	for i, a := range row {
		for j, b := range row {
			lineAs(t, nums(a, b, 1), nums(row[(3*i+j)%len(row)], row[(i+5*j+1)%len(row)], b))
		}
	}
}

// P19.2: of many lengths and many kinds of numbers, x and y of each kind.
func TestLineOfMany(t *testing.T) {
	d := dice(191)
	for n := 2; n < 40; n++ {
		for _, x := range d.throws() {
			for _, y := range d.throws() {
				lineAs(t, d.list(n, x), d.list(n, y))
			}
		}
	}
}

// P19.2: close to a line, and on it but for one point.
func TestLineNearlyOnOne(t *testing.T) {
	d := dice(192)
	for n := 3; n < 60; n++ {
		x := d.list(n, func() float64 { return float64(d.below(2000) - 1000) })
		y := slices.Clone(x)
		b, a := float64(d.below(2000)-1000), float64(d.below(2000)-1000)
		for i := range y {
			y[i] = a + b*y[i]
		}
		lineAs(t, x, y)
		for _, off := range []float64{math.Nextafter(y[1], inf), y[1] + 0x1p-20, greatest, least} {
			y[1] = off
			lineAs(t, x, y)
		}
	}
}

// halfway are two numbers of 53 bits and what they come to: an odd number of 54 bits, which stands just between two others.
func (d *dice) halfway() (great, one float64, in, out float64) {
	great = 0x1p53 + float64(2*d.below(1<<50))
	in = great
	if d.below(2) == 1 {
		return great, -1, in - 2, in
	}
	return great, 1, in, in + 2
}

// P19.2: a Slope and a Cut just in the middle of two numbers, and a little above and below.
func TestSlopeAndCutAtMiddles(t *testing.T) {
	d := dice(193)
	for range 300 {
		great, one, in, out := d.halfway()
		in, out = in/2, out/2
		size := math.Ldexp(1, d.below(1900)-1000)
		x := nums(-size, 0, size)
		for mode, is := range tie(in, out) {
			f, e := Line(nums(-1, 0, 1), nums(-one, float64(d.below(9)), great), mode)
			answers(t, "Slope", f.Slope, e, is, api.OK)
			f, e = Line(nums(-1, 0, 1), nums(one, 0, -great), turnedMode(mode))
			answers(t, "Slope below nought", f.Slope, e, -is, api.OK)
			f, e = Line(nums(-size, size), nums(one, great), mode)
			answers(t, "Cut", f.Cut, e, is, api.OK)
			f, e = Line(nums(size, -size), nums(-one, -great), turnedMode(mode))
			answers(t, "Cut below nought", f.Cut, e, -is, api.OK)
		}
		lineAs(t, x, nums(-one, 3, great))
		// Four points, the other two of which add a little, or take it.
		square := nums(-1, -1, 1, 1)
		for mode, is := range byModes(out, in, out) {
			f, e := Line(square, nums(-2*one, 0, 2*great, least), mode)
			answers(t, "Slope, a little above", f.Slope, e, is, api.OK)
			f, e = Line(square, nums(2*one, 0, 2*great, least), mode)
			answers(t, "Cut, a little above", f.Cut, e, is, api.OK)
		}
		for mode, is := range byModes(in, in, out) {
			f, e := Line(square, nums(-2*one, least, 2*great, 0), mode)
			answers(t, "Slope, a little below", f.Slope, e, is, api.OK)
			f, e = Line(square, nums(2*one, 0, 2*great, -least), mode)
			answers(t, "Cut, a little below", f.Cut, e, is, api.OK)
		}
	}
}

// P19.2: a Left just in the middle of two numbers, and a little above and below.
func TestLeftAtMiddles(t *testing.T) {
	d := dice(194)
	for range 300 {
		// The square of an odd number of 27 bits that has 54 bits.
		odd := 94906267 + 2*d.below(19000000)
		in := float64(uint64(odd*odd) - 1)
		out := in + 2
		off := float64(odd)
		square := nums(-1, -1, 1, 1)
		for mode, is := range tie(in, out) {
			f, e := Line(square, nums(off, -off, off, -off), mode)
			fits(t, "Left", f, e, api.Fit{N: 4, Left: 4 * is}, api.OK)
			f, e = Line(square, nums(off-1, -off-1, off+1, -off+1), mode)
			answers(t, "Left of a slope", f.Left, e, 4*is, api.OK)
			f, e = Line(nums(3, 1, 1, 3), nums(-off/0x1p100, -off/0x1p100, off/0x1p100, off/0x1p100), mode)
			answers(t, "Left, less", f.Left, e, is/0x1p198, api.OK)
		}
		// Two further points that lie off by a little, at one place and as far on either side.
		for mode, is := range byModes(out, in, out) {
			f, e := Line(append(square, 0, 0), nums(off, -off, off, -off, least, -least), mode)
			answers(t, "Left, a little above", f.Left, e, 4*is, api.OK)
		}
		// Places that are not quite as far on either side: the line tells a little.
		for mode, is := range byModes(in, in, out) {
			f, e := Line(nums(-1, -1, 1, 1+0x1p-52), nums(off, -off, off, -off), mode)
			answers(t, "Left, a little below", f.Left, e, 4*is, api.OK)
		}
	}
}

// squares are four numbers whose squares come to n.
func squares(n int) [4]int {
	root := func(n int) int { return int(math.Sqrt(float64(n))) }
	for a := root(n); a >= 0; a-- {
		for b := root(n - a*a); b >= 0 && b > root(n-a*a)-50; b-- {
			for c := root(n - a*a - b*b); c >= 0; c-- {
				left := n - a*a - b*b - c*c
				if d := root(left); d*d == left {
					return [4]int{a, b, c, d}
				}
			}
		}
	}
	return [4]int{}
}

// P19.2: a Told just in the middle of two numbers.
func TestToldAtMiddles(t *testing.T) {
	d := dice(195)
	for range 100 {
		// Of 2^54 the line tells the square of an odd number of 27 bits, which has 54 bits; four ways of being off the line, which have nothing to do with each other, tell the rest.
		odd := 94906267 + 2*d.below(19000000)
		rest := squares(1<<54 - odd*odd)
		var x, y []float64
		for i := range 8 {
			sign := func(k int) int { return 1 - 2*(i>>k&1) }
			x = append(x, float64(sign(0)))
			y = append(y, float64(odd*sign(0)+rest[0]*sign(1)+rest[1]*sign(2)+rest[2]*sign(0)*sign(1)+rest[3]*sign(0)*sign(2)))
		}
		in := float64(uint64(odd*odd) - 1)
		for mode, is := range tie(in, in+2) {
			f, e := Line(x, y, mode)
			fits(t, "Told", f, e, api.Fit{N: 8, Slope: float64(odd), Told: is / 0x1p54, Left: f.Left}, api.OK)
			f, e = Line(x, turnedAll(y), mode)
			answers(t, "Told of a line that falls", f.Told, e, is/0x1p54, api.OK)
		}
		lineAs(t, x, y)
	}
}

// P19.2: lists of MaxList numbers are taken, whatever they come to.
func TestLineOfLongLists(t *testing.T) {
	halves := func(x, y float64) []float64 { return slices.Concat(often(longest/2, x), often(longest/2, y)) }
	quarters := slices.Concat(often(longest/4, 1), often(longest/2, -1), often(longest/4, 1))
	climb := make([]float64, longest)
	for i := range climb {
		climb[i] = float64(i)
	}
	for _, c := range []struct {
		name string
		x, y []float64
		is   api.Fit
	}{
		{"greatest, either sign", halves(greatest, -greatest), halves(greatest, -greatest), api.Fit{N: longest, Slope: 1, Told: 1}},
		{"greatest and least", halves(greatest, -greatest), halves(-least, least), api.Fit{N: longest, Slope: noughtBelow, Told: 1}},
		{"least and greatest", halves(least, -least), halves(greatest, -greatest), api.Fit{N: longest, Slope: inf, Told: 1}},
		{"nothing told", halves(3, 4), quarters, api.Fit{N: longest, Left: longest}},
		{"flat", climb, often(longest, -0.1), api.Fit{N: longest, Cut: -0.1, Told: 1}},
		{"on a line", climb, climb, api.Fit{N: longest, Slope: 1, Told: 1}},
		{"one that is another", append(often(longest-1, 2), 3), append(often(longest-1, 0.5), 0.75), api.Fit{N: longest, Slope: 0.25, Told: 1}},
	} {
		f, e := Line(c.x, c.y, api.Even)
		fits(t, c.name, f, e, c.is, api.OK)
	}
	d := dice(196)
	x, y := d.list(longest, d.near()), d.list(longest, d.near())
	f, e := Line(x, y, api.Up)
	fits(t, "MaxList points", f, e, modelOf(x, y).lines()[api.Up], api.OK)
}
