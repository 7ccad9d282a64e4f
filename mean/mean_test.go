package mean

import (
	"math"
	"slices"
	"testing"

	"steelyard/api"
)

// meanAs fails unless Mean answers by every mode and every policy as P13.1 says.
func meanAs(t *testing.T, l []float64) {
	t.Helper()
	m := meantBy(l)
	for mode := range 5 {
		for _, p := range policies() {
			x, e := Mean(l, mode, p)
			if is, want := m.right(mode, p); !sameBits(x, is) || e != want {
				t.Errorf("Mean of %d numbers, %x .., mode %d, %+v: %x, error %d; want %x, error %d", len(l), brief(l), mode, p, x, e, is, want)
			}
		}
	}
}

func everyMode(x float64) [5]float64 { return [5]float64{x, x, x, x, x} }

// P13.1: by hand, by each mode.
func TestMeanByHand(t *testing.T) {
	under := math.Nextafter(greatest, 0)
	for _, c := range []struct {
		name string
		l    []float64
		is   [5]float64
	}{
		{"one", nums(-2.5), everyMode(-2.5)},
		{"+0", nums(0), everyMode(0)},
		{"-0", nums(noughtBelow), everyMode(noughtBelow)},
		{"+0 thrice", nums(0, 0, 0), everyMode(0)},
		{"-0 thrice", nums(noughtBelow, noughtBelow, noughtBelow), everyMode(noughtBelow)},
		{"noughts of both signs", nums(0, noughtBelow), [5]float64{0, 0, 0, noughtBelow, 0}},
		{"what cancels", nums(3, -1, -2), [5]float64{0, 0, 0, noughtBelow, 0}},
		{"what cancels, and -0", nums(3, -3, noughtBelow), [5]float64{0, 0, 0, noughtBelow, 0}},
		{"what cancels, and +0", nums(3, -3, 0), [5]float64{0, 0, 0, noughtBelow, 0}},
		{"great ones that cancel", nums(greatest, greatest, -greatest, -greatest), [5]float64{0, 0, 0, noughtBelow, 0}},
		{"thrice 0.1", nums(0.1, 0.1, 0.1), everyMode(0.1)},
		{"a tenth, two, three", nums(0.1, 0.2, 0.3), [5]float64{0.2, math.Nextafter(0.2, 0), 0.2, math.Nextafter(0.2, 0), 0.2}},
		{"1/3", nums(1, 0, 0), [5]float64{0x1.5555555555555p-2, 0x1.5555555555555p-2, 0x1.5555555555556p-2, 0x1.5555555555555p-2, 0x1.5555555555555p-2}},
		{"-2/3", nums(-1, -1, noughtBelow), [5]float64{-0x1.5555555555555p-1, -0x1.5555555555555p-1, -0x1.5555555555555p-1, -0x1.5555555555556p-1, -0x1.5555555555555p-1}},
		{"the greatest thrice", nums(greatest, greatest, greatest), everyMode(greatest)},
		{"less the greatest thrice", nums(-greatest, -greatest, -greatest), everyMode(-greatest)},
		{"the greatest and its neighbour", nums(greatest, under), [5]float64{under, under, greatest, under, greatest}},
		{"two of the greatest, one neighbour", nums(greatest, greatest, under), [5]float64{greatest, under, greatest, under, greatest}},
		{"one of the greatest, two neighbours", nums(under, under, greatest), [5]float64{under, under, greatest, under, under}},
		{"less the greatest and its neighbour", nums(-greatest, -under), [5]float64{-under, -under, -under, -greatest, -greatest}},
		{"a middle whose lower one is even", nums(1, 1+0x1p-52), [5]float64{1, 1, 1 + 0x1p-52, 1, 1 + 0x1p-52}},
		{"a middle whose upper one is even", nums(1+0x1p-52, 1+0x1p-51), [5]float64{1 + 0x1p-51, 1 + 0x1p-52, 1 + 0x1p-51, 1 + 0x1p-52, 1 + 0x1p-51}},
		{"just above a middle", nums(2, 2+0x1p-51, least, least), [5]float64{1 + 0x1p-52, 1, 1 + 0x1p-52, 1, 1 + 0x1p-52}},
		{"just below a middle", nums(2, 2+0x1p-51, -least, 0), [5]float64{1, 1, 1 + 0x1p-52, 1, 1}},
		{"half the least", nums(least, 0), [5]float64{0, 0, least, 0, least}},
		{"a third of the least", nums(least, 0, 0), [5]float64{0, 0, least, 0, 0}},
		{"two thirds of the least", nums(least, least, 0), [5]float64{least, 0, least, 0, least}},
		{"less half the least", nums(-least, noughtBelow), [5]float64{noughtBelow, noughtBelow, noughtBelow, -least, -least}},
		{"less a third of the least", nums(-least, 0, 0), [5]float64{noughtBelow, noughtBelow, noughtBelow, -least, noughtBelow}},
		{"one and a half of the least", nums(least, 2*least), [5]float64{2 * least, least, 2 * least, least, 2 * least}},
		{"the least normal one and the one below", nums(normal, normal-least), [5]float64{normal, normal - least, normal, normal - least, normal}},
		{"the greatest, less it, and the least", nums(greatest, -greatest, least), [5]float64{0, 0, least, 0, 0}},
	} {
		for mode, is := range c.is {
			x, e := Mean(c.l, mode, api.Policy{})
			answers(t, c.name, x, e, is, api.OK)
		}
		meanAs(t, c.l)
	}
}

// P13.1: by each policy, by hand; noughts alone that are left have their own sign, whatever was passed over.
func TestMeanOfSpecials(t *testing.T) {
	const none = -999 // ErrNone
	for _, c := range []struct {
		name                string
		l                   []float64
		carried, passed     float64 // by {Carry, Carry}, {Pass, Pass}
		passedNaN, carryNaN float64 // by {Pass, Carry}, {Carry, Pass}
	}{
		{"none", nums(), none, none, none, none},
		{"a NaN", nums(hole, 2, 4), hole, 3, 3, hole},
		{"a NaN alone", nums(hole), hole, none, none, hole},
		{"a NaN, and -0", nums(noughtBelow, hole), hole, noughtBelow, noughtBelow, hole},
		{"an infinity", nums(inf, 2, 4), inf, 3, inf, 3},
		{"an infinity below nought", nums(2, -inf, 4), -inf, 3, -inf, 3},
		{"an infinity alone", nums(-inf), -inf, none, -inf, none},
		{"an infinity, and -0", nums(-inf, noughtBelow, noughtBelow), -inf, noughtBelow, -inf, noughtBelow},
		{"infinities of both signs", nums(inf, -inf, 7), hole, 7, hole, 7},
		{"infinities of both signs alone", nums(inf, -inf), hole, none, hole, none},
		{"all of them", nums(hole, -inf, 1, inf, 2), hole, 1.5, hole, hole},
		{"all of them alone", nums(hole, -inf), hole, none, -inf, hole},
		{"a NaN, an infinity, a number", nums(inf, 5, hole), hole, 5, inf, hole},
	} {
		for mode := range 5 {
			for p, is := range map[api.Policy]float64{{}: c.carried, {NaN: api.Pass, Inf: api.Pass}: c.passed, {NaN: api.Pass}: c.passedNaN, {Inf: api.Pass}: c.carryNaN} {
				x, e := Mean(c.l, mode, p)
				if is == none {
					refuses(t, c.name, x, e, api.ErrNone)
				} else {
					answers(t, c.name, x, e, is, api.OK)
				}
			}
		}
		meanAs(t, c.l)
	}
}

// P13.1: a NaN of whatever bits is the one that is answered, wherever it stands.
func TestMeanOfNaN(t *testing.T) {
	for _, odd := range odds() {
		for i := range 3 {
			l := nums(-inf, 2, greatest)
			l[i] = odd
			x, e := Mean(l, api.Down, api.Policy{})
			answers(t, "carried", x, e, hole, api.OK)
			meanAs(t, l)
			meanAs(t, nums(odd))
		}
	}
}

// P13.1: lists of up to three numbers of every kind, and of two of all edges.
func TestMeanOfEveryKind(t *testing.T) {
	for n := range 4 {
		eachList(n, few(), func(l []float64) { meanAs(t, l) })
	}
	eachList(2, append(edges(), inf, -inf, hole), func(l []float64) { meanAs(t, l) })
}

// P13.1: lists of many lengths, of like sizes and of all, such that cancel, or nearly, and such at both ends.
func TestMeanOfMany(t *testing.T) {
	d := dice(131)
	for n := range 150 {
		meanAs(t, d.list(n, d.near()))
		meanAs(t, d.list(n, d.finite))
		meanAs(t, d.list(n%9, d.any))
		meanAs(t, d.list(n%12, func() float64 { return d.sized(1021, 1023) }))
		meanAs(t, d.list(n%12, func() float64 { return d.sized(-1074, -1070) }))
		l := d.list(n, d.finite)
		l = d.shuffled(append(l, turnedAll(l)...))
		meanAs(t, l)
		meanAs(t, append(l, d.finite()))
	}
}

// P13.1: means that are just in the middle of two numbers, and such that lie a little beside it.
func TestMeanAtMiddles(t *testing.T) {
	d := dice(132)
	for range 200 {
		x := math.Abs(d.sized(-1021, 1000))
		y := math.Nextafter(x, inf)
		for _, n := range []int{1, 2, 3, 5, 8} {
			// As many of each: the mean is the middle.
			l := d.shuffled(slices.Concat(often(n, x), often(n, y)))
			for mode, is := range [5]float64{even(x, y), x, y, x, y} {
				m, e := Mean(l, mode, api.Policy{})
				answers(t, "a middle", m, e, is, api.OK)
				m, e = Mean(turnedAll(l), turnedMode(mode), api.Policy{})
				answers(t, "a middle below nought", m, e, -is, api.OK)
			}
			meanAs(t, append(l, x))
			meanAs(t, append(l, y))
		}
		for mode, is := range [5]float64{y, x, y, x, y} {
			m, e := Mean(nums(2*x, least, 2*y, 0), mode, api.Policy{})
			answers(t, "just above a middle", m, e, is, api.OK)
		}
		for mode, is := range [5]float64{x, x, y, x, x} {
			m, e := Mean(nums(2*y, -least, 2*x, 0), mode, api.Policy{})
			answers(t, "just below a middle", m, e, is, api.OK)
		}
	}
}

// even is that of two neighbours whose last bit is 0.
func even(x, y float64) float64 {
	if hex(x)%2 == 0 {
		return x
	}
	return y
}

// turnedMode is Up for Down, and Down for Up.
func turnedMode(mode int) int {
	switch mode {
	case api.Up:
		return api.Down
	case api.Down:
		return api.Up
	}
	return mode
}

// P13.1: lists of MaxList numbers are taken, whatever they come to.
func TestMeanOfLongLists(t *testing.T) {
	half := slices.Concat(often(longest/2, greatest), often(longest/2, -greatest))
	for _, c := range []struct {
		name string
		l    []float64
		is   [5]float64
	}{
		{"2^16 of the greatest", often(longest, greatest), everyMode(greatest)},
		{"2^16 of less the greatest", often(longest, -greatest), everyMode(-greatest)},
		{"2^16 of the least", often(longest, least), everyMode(least)},
		{"2^16 of 0.1", often(longest, 0.1), everyMode(0.1)},
		{"2^16 of -0", often(longest, noughtBelow), everyMode(noughtBelow)},
		{"2^16 of +0", often(longest, 0), everyMode(0)},
		{"2^16 of -0, but one", append(often(longest-1, noughtBelow), 0), [5]float64{0, 0, 0, noughtBelow, 0}},
		{"half of either sign", half, [5]float64{0, 0, 0, noughtBelow, 0}},
		{"the least among noughts", append(often(longest-1, 0), least), [5]float64{0, 0, least, 0, 0}},
		{"one among noughts", append(often(longest-1, 0), 1), everyMode(0x1p-16)},
	} {
		for mode, is := range c.is {
			x, e := Mean(c.l, mode, api.Policy{})
			answers(t, c.name, x, e, is, api.OK)
		}
	}
	d := dice(133)
	meanAs(t, d.list(longest, d.near()))
	meanAs(t, d.list(longest-1, d.near()))
	meanAs(t, d.list(longest, d.finite))
	meanAs(t, often(longest, hole))
}
