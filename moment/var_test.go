package moment

import (
	"math"
	"slices"
	"testing"

	"steelyard/api"
)

// varAs fails unless Var and Std answer by every mode and every policy, and by either less, as P14.1 says.
func varAs(t *testing.T, l []float64) {
	t.Helper()
	all := policies()
	if !slices.ContainsFunc(l, func(x float64) bool { return x-x != 0 }) {
		// A policy has no say then: the mildest and the strictest are enough.
		all = []api.Policy{{}, {NaN: api.Refuse, Inf: api.Refuse}}
	}
	m := meantBy(l)
	for less := range 2 {
		for mode := range 5 {
			for _, p := range all {
				x, e := Var(l, less, mode, p)
				if is, want := m.right(m.vars, less, mode, p); !sameBits(x, is) || e != want {
					t.Errorf("Var of %d numbers, %x .., less %d, mode %d, %+v: %x, error %d; want %x, error %d", len(l), brief(l), less, mode, p, x, e, is, want)
				}
				x, e = Std(l, less, mode, p)
				if is, want := m.right(m.stds, less, mode, p); !sameBits(x, is) || e != want {
					t.Errorf("Std of %d numbers, %x .., less %d, mode %d, %+v: %x, error %d; want %x, error %d", len(l), brief(l), less, mode, p, x, e, is, want)
				}
			}
		}
	}
}

// P14.1: Var by hand, by each mode.
func TestVarByHand(t *testing.T) {
	twoThirds := byModes(0x1.5555555555555p-1, 0x1.5555555555555p-1, 0x1.5555555555556p-1)
	brink := 0x1.fffffffffffffp511
	for _, c := range []struct {
		name string
		l    []float64
		less int
		is   [5]float64
	}{
		{"one", nums(-2.5), 0, everyMode(0)},
		{"one, the greatest", nums(greatest), 0, everyMode(0)},
		{"two", nums(1, 2), 0, everyMode(0.25)},
		{"two, less 1", nums(1, 2), 1, everyMode(0.5)},
		{"two below nought", nums(-1, -2), 1, everyMode(0.5)},
		{"two of either sign", nums(-3, 3), 0, everyMode(9)},
		{"two of either sign, less 1", nums(-3, 3), 1, everyMode(18)},
		{"all the same", nums(0.1, 0.1, 0.1), 0, everyMode(0)},
		{"all the same, less 1", nums(0.1, 0.1, 0.1), 1, everyMode(0)},
		{"+0 and -0", nums(0, noughtBelow), 0, everyMode(0)},
		{"+0 and -0, less 1", nums(0, noughtBelow, 0), 1, everyMode(0)},
		{"-0 alone", nums(noughtBelow, noughtBelow), 1, everyMode(0)},
		{"+0, -0 and others", nums(0, noughtBelow, 2, -2), 0, everyMode(2)},
		{"2/3", nums(1, 2, 3), 0, twoThirds},
		{"1", nums(1, 2, 3), 1, everyMode(1)},
		{"2/3, far from nought", nums(0x1p52, 0x1p52+1, 0x1p52+2), 0, twoThirds},
		{"2/3, far below nought", nums(-0x1p53+1, -0x1p53+3, -0x1p53+2), 0, twoThirds},
		{"neighbours at the greatest", nums(greatest, greatest-0x1p971), 0, beyond()},
		{"close together at 1", nums(1, 1+0x1p-52), 0, everyMode(0x1p-106)},
		{"close together at the least", nums(least, 0), 0, under()},
		{"neighbours at the least, less 1", nums(-least, least), 1, under()},
		{"the least that is told", nums(0x1p-537, -0x1p-537), 0, everyMode(least)},
		{"half the least", nums(0x1p-537, -0x1p-537, 0, 0), 0, [5]float64{0, 0, least, 0, least}},
		{"two thirds of the least", nums(0x1p-537, -0x1p-537, 0), 0, byModes(least, 0, least)},
		{"a third of the least", nums(0x1p-537, -0x1p-537, 0, 0, 0, 0), 0, under()},
		{"beyond", nums(0x1p512, -0x1p512), 0, beyond()},
		{"far beyond", nums(greatest, -greatest), 0, beyond()},
		{"far beyond, less 1", nums(greatest, -greatest, greatest), 1, beyond()},
		{"just within", nums(brink, -brink), 0, byModes(greatest-0x1p971, greatest-0x1p971, greatest)},
		{"a power of two, just within", nums(0x1p511, -0x1p511), 0, everyMode(0x1p1022)},
		{"a power of two, less 1", nums(0x1p511, -0x1p511), 1, everyMode(0x1p1023)},
		{"great ones that differ by one", nums(0x1p53-1, 0x1p53-2, 0x1p53-1, 0x1p53-2), 0, everyMode(0.25)},
		{"a little below 3/16 of a power", nums(0x1p500, 0x1p500, 0x1p500, least), 0, byModes(0x1.8p997, math.Nextafter(0x1.8p997, 0), 0x1.8p997)},
	} {
		for mode, is := range c.is {
			x, e := Var(c.l, c.less, mode, api.Policy{})
			answers(t, c.name, x, e, is, api.OK)
		}
		varAs(t, c.l)
	}
}

// P14.1: Std by hand, by each mode.
func TestStdByHand(t *testing.T) {
	half := byModes(0x1.6a09e667f3bcdp-1, 0x1.6a09e667f3bccp-1, 0x1.6a09e667f3bcdp-1) // the root of a half
	for _, c := range []struct {
		name string
		l    []float64
		less int
		is   [5]float64
	}{
		{"one", nums(-2.5), 0, everyMode(0)},
		{"two", nums(1, 2), 0, everyMode(0.5)},
		{"two, less 1", nums(1, 2), 1, half},
		{"all the same", nums(-0.1, -0.1, -0.1), 1, everyMode(0)},
		{"+0 and -0", nums(0, noughtBelow), 1, everyMode(0)},
		{"the greatest, and less it", nums(greatest, -greatest), 0, everyMode(greatest)},
		{"the greatest, and less it, less 1", nums(greatest, -greatest), 1, beyond()},
		{"the greatest and nought", nums(greatest, 0), 0, everyMode(greatest / 2)},
		{"the greatest and its neighbour", nums(greatest, greatest-0x1p971), 0, everyMode(0x1p970)},
		{"the least, and less it", nums(least, -least), 0, everyMode(least)},
		{"the least and nought", nums(least, 0), 0, [5]float64{0, 0, least, 0, least}},
		{"the least and nought, less 1", nums(least, 0), 1, byModes(least, 0, least)},
		{"the least among noughts", nums(least, 0, 0, noughtBelow), 0, under()},
		{"a middle whose lower one is even", nums(0x1p53, -1), 0, [5]float64{0x1p52, 0x1p52, 0x1p52 + 1, 0x1p52, 0x1p52 + 1}},
		{"a middle whose upper one is even", nums(0x1p53, -3), 0, [5]float64{0x1p52 + 2, 0x1p52 + 1, 0x1p52 + 2, 0x1p52 + 1, 0x1p52 + 2}},
		{"3, 4, 5 less 1", nums(3, 4, 5), 1, everyMode(1)},
		{"far from nought", nums(0x1p52, 0x1p52+2), 0, everyMode(1)},
	} {
		for mode, is := range c.is {
			x, e := Std(c.l, c.less, mode, api.Policy{})
			answers(t, c.name, x, e, is, api.OK)
		}
		varAs(t, c.l)
	}
}

// P14.1: by each policy, by hand; an infinity that is carried is the NaN, too, of whatever sign it is.
func TestVarOfSpecials(t *testing.T) {
	const none = -999 // ErrNone
	for _, c := range []struct {
		name                string
		l                   []float64
		less                int
		carried, passed     float64 // by {Carry, Carry}, {Pass, Pass}
		passedNaN, carryNaN float64 // by {Pass, Carry}, {Carry, Pass}
	}{
		{"none", nums(), 0, none, none, none, none},
		{"none, less 1", nums(), 1, none, none, none, none},
		{"one, less 1", nums(7), 1, none, none, none, none},
		{"a NaN", nums(hole, 2, 4), 0, hole, 1, 1, hole},
		{"a NaN, less 1", nums(2, hole, 4), 1, hole, 2, 2, hole},
		{"a NaN alone", nums(hole), 0, hole, none, none, hole},
		{"a NaN, and one, less 1", nums(hole, 5), 1, hole, none, none, hole},
		{"a NaN, and one", nums(hole, 5), 0, hole, 0, 0, hole},
		{"an infinity", nums(inf, 2, 4), 0, hole, 1, hole, 1},
		{"an infinity below nought", nums(2, -inf, 4), 1, hole, 2, hole, 2},
		{"an infinity alone", nums(inf), 0, hole, none, hole, none},
		{"an infinity below nought, and one, less 1", nums(-inf, 3), 1, hole, none, hole, none},
		{"infinities of one sign", nums(inf, inf, 0, 2), 0, hole, 1, hole, 1},
		{"infinities of both signs", nums(inf, -inf, 7, 7), 1, hole, 0, hole, 0},
		{"infinities of both signs alone", nums(inf, -inf), 1, hole, none, hole, none},
		{"all of them", nums(hole, -inf, 1, inf, 3), 0, hole, 1, hole, hole},
		{"a NaN and an infinity alone", nums(hole, -inf), 0, hole, none, hole, hole},
		{"a NaN, an infinity, noughts", nums(inf, noughtBelow, hole, 0), 1, hole, 0, hole, hole},
	} {
		for mode := range 5 {
			for p, is := range map[api.Policy]float64{{}: c.carried, {NaN: api.Pass, Inf: api.Pass}: c.passed, {NaN: api.Pass}: c.passedNaN, {Inf: api.Pass}: c.carryNaN} {
				x, e := Var(c.l, c.less, mode, p)
				if is == none {
					refuses(t, c.name, x, e, api.ErrNone)
				} else {
					answers(t, c.name, x, e, is, api.OK)
				}
			}
		}
		varAs(t, c.l)
	}
}

// P14.1: a NaN of whatever bits is the one that is answered, wherever it stands.
func TestVarOfNaN(t *testing.T) {
	for _, odd := range odds() {
		for i := range 3 {
			l := nums(-inf, 2, greatest)
			l[i] = odd
			x, e := Var(l, 1, api.Down, api.Policy{})
			answers(t, "carried", x, e, hole, api.OK)
			x, e = Std(l, 0, api.Up, api.Policy{})
			answers(t, "carried", x, e, hole, api.OK)
			varAs(t, l)
			varAs(t, nums(odd))
		}
	}
}

// P14.1: lists of up to three numbers of every kind, and of two of all edges.
func TestVarOfEveryKind(t *testing.T) {
	for n := range 4 {
		eachList(n, few(), func(l []float64) { varAs(t, l) })
	}
	eachList(2, append(edges(), inf, hole), func(l []float64) { varAs(t, l) })
}

// P14.1: lists of many lengths, of like sizes and of all, close together, at both ends of what a square may be.
func TestVarOfMany(t *testing.T) {
	d := dice(151)
	for n := range 70 {
		varAs(t, d.list(n, d.near()))
		varAs(t, d.list(n, d.finite))
		varAs(t, d.list(n%9, d.any))
		varAs(t, d.list(n%12, func() float64 { return d.sized(509, 513) }))
		varAs(t, d.list(n%12, func() float64 { return d.sized(1021, 1023) }))
		varAs(t, d.list(n%12, func() float64 { return d.sized(-539, -534) }))
		varAs(t, d.list(n%12, func() float64 { return d.sized(-1074, -1070) }))
		varAs(t, d.list(n, d.close()))
		l := d.list(n/2, d.finite)
		varAs(t, append(d.shuffled(append(l, turnedAll(l)...)), d.finite()))
	}
}

// P14.1: variances just in the middle of two numbers, and a little above, by each mode.
func TestVarAtMiddles(t *testing.T) {
	d := dice(152)
	for range 150 {
		// The square of an odd number of 27 bits that is great enough has 54 bits, and the last one is a one.
		odd := float64(94906267 + 2*d.below(10000000))
		square := uint64(odd) * uint64(odd)
		low, high := float64(square-1), float64(square+1)
		for _, by := range []float64{1, 0x1p-500, 0x1p200, 0x1p477} {
			x, in, out := odd*by, low*by*by, high*by*by
			for mode, is := range [5]float64{even(in, out), in, out, in, out} {
				v, e := Var(nums(-x, x), 0, mode, api.Policy{})
				answers(t, "a middle", v, e, is, api.OK)
			}
			for mode, is := range [5]float64{out, in, out, in, out} {
				v, e := Var(nums(2*x, -2*x, least, -least, 0, 0, 0, 0), 0, mode, api.Policy{})
				answers(t, "just above a middle", v, e, is, api.OK)
			}
		}
	}
}

// P14.1: roots just in the middle of two numbers, and a little above, by each mode.
func TestStdAtMiddles(t *testing.T) {
	d := dice(153)
	for range 150 {
		// Two numbers that lie an odd number of 54 bits apart: half of that is the middle.
		odd := 0x1p53 - 1 - 2*float64(d.below(1<<20))
		in := 0x1p52 + (odd-1)/2
		out := in + 1
		for _, by := range []float64{1, 0x1p-1074, 0x1p-300, 0x1p970} {
			for mode, is := range [5]float64{even(in, out), in, out, in, out} {
				x, e := Std(nums(0x1p53*by, -odd*by), 0, mode, api.Policy{})
				answers(t, "a middle", x, e, is*by, api.OK)
			}
		}
		// Twice as far from the mean c, and four times as many, two of which lie a little beside it.
		c := 0x1p53 - odd
		for mode, is := range [5]float64{out, in, out, in, out} {
			x, e := Std(nums(0x1p54, -2*odd, c+0x1p-30, c-0x1p-30, c, c, c, c), 0, mode, api.Policy{})
			answers(t, "just above a middle", x, e, is, api.OK)
		}
	}
}

// even is that of two neighbours whose last bit is 0.
func even(x, y float64) float64 {
	if hex(x)%2 == 0 {
		return x
	}
	return y
}

// P14.1: lists of MaxList numbers are taken, whatever they come to.
func TestVarOfLongLists(t *testing.T) {
	rising := make([]float64, longest)
	for i := range rising {
		rising[i] = 0x1p52 + float64(i)
	}
	half := slices.Concat(often(longest/2, greatest), often(longest/2, -greatest))
	for _, c := range []struct {
		name string
		l    []float64
		less int
		is   [5]float64
	}{
		{"2^16 of the greatest", often(longest, greatest), 0, everyMode(0)},
		{"2^16 of less the least", often(longest, -least), 1, everyMode(0)},
		{"2^16 of 0.1", often(longest, 0.1), 1, everyMode(0)},
		{"2^16 of -0, but one", append(often(longest-1, noughtBelow), 0), 1, everyMode(0)},
		{"half of either sign", half, 0, beyond()},
		{"one among noughts", append(often(longest-1, 0), 1), 0, everyMode(65535 * 0x1p-32)},
		{"one among noughts, less 1", append(often(longest-1, 0), 1), 1, everyMode(0x1p-16)},
		{"rising by one, (n^2 - 1) by 12", rising, 0, everyMode(357913941.25)},
		{"rising by one, n (n + 1) by 12", rising, 1, ratioOnce(whole(longest*(longest+1)), whole(12))},
	} {
		for _, mode := range []int{api.Zero, api.Up} {
			x, e := Var(c.l, c.less, mode, api.Policy{})
			answers(t, c.name, x, e, c.is[mode], api.OK)
		}
	}
	for _, mode := range []int{api.Even, api.Zero} {
		x, e := Std(half, 0, mode, api.Policy{})
		answers(t, "half of either sign, Std", x, e, greatest, api.OK)
		x, e = Std(half, 1, mode, api.Policy{})
		answers(t, "half of either sign, Std, less 1", x, e, beyond()[mode], api.OK)
	}
	d := dice(154)
	for _, l := range [][]float64{d.list(longest, d.near()), d.list(longest, d.finite), append(often(longest-1, hole), 1)} {
		m, p := meantBy(l), api.Policy{NaN: api.Pass}
		for i, mode := range []int{api.Even, api.Up} {
			x, e := Var(l, i, mode, p)
			is, want := m.right(m.vars, i, mode, p)
			answers(t, "Var of MaxList numbers", x, e, is, want)
			x, e = Std(l, 1-i, mode, p)
			is, want = m.right(m.stds, 1-i, mode, p)
			answers(t, "Std of MaxList numbers", x, e, is, want)
		}
	}
}
