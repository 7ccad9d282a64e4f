package sums

import (
	"math"
	"slices"
	"testing"

	"steelyard/api"
	"steelyard/super"
)

// everyWay asks for Exact by every mode and every policy that may be, and holds it against the exact sum, and against layer 7.
func everyWay(t *testing.T, l []float64) {
	t.Helper()
	acc := super.New()
	for _, x := range l {
		acc.Add(x)
	}
	for mode := range 5 {
		for _, p := range policies() {
			x, e := Exact(l, mode, p)
			is, want := right(l, mode, p)
			y, f := acc.Round(mode, p)
			if !sameBits(x, is) || e != want || !sameBits(x, y) || e != f {
				t.Errorf("Exact of %d numbers, %x .., mode %d, %+v: %x, error %d; want %x, error %d; layer 7: %x, error %d", len(l), l[:min(len(l), 8)], mode, p, x, e, is, want, y, f)
			}
		}
	}
}

// P10.1: a mode that is none, a policy that may not be, a list that is too long, a NaN, an infinity: the first of these is told.
func TestExactRefusesInOrder(t *testing.T) {
	long := often(longest+1, 1)
	long[7], long[9] = hole, inf
	strict := api.Policy{NaN: api.Refuse, Inf: api.Refuse}
	for _, l := range [][]float64{nil, {1}, {hole, inf}, long} {
		for _, mode := range noModes() {
			for _, p := range append(policies(), strangers()...) {
				x, e := Exact(l, mode, p)
				refuses(t, "a mode that is none", x, e, api.ErrArg)
			}
		}
		for mode := range 5 {
			for _, p := range strangers() {
				x, e := Exact(l, mode, p)
				refuses(t, "a policy that may not be", x, e, api.ErrArg)
			}
		}
	}
	for mode := range 5 {
		for _, p := range policies() {
			x, e := Exact(long, mode, p)
			refuses(t, "a list that is too long", x, e, api.ErrLong)
		}
		for _, l := range [][]float64{{inf, hole, 1}, {1, hole, -inf}, long[:longest]} {
			x, e := Exact(l, mode, strict)
			refuses(t, "a NaN and an infinity", x, e, api.ErrNaN)
			x, e = Exact(l, mode, api.Policy{NaN: api.Refuse})
			refuses(t, "a NaN", x, e, api.ErrNaN)
			x, e = Exact(l, mode, api.Policy{NaN: api.Pass, Inf: api.Refuse})
			refuses(t, "an infinity", x, e, api.ErrEndless)
			x, e = Exact(l, mode, api.Policy{Inf: api.Refuse})
			refuses(t, "an infinity, ahead of a NaN that is carried", x, e, api.ErrEndless)
		}
	}
}

// P10.1: every mode and every policy of lists of none, of noughts, and of all that is special.
func TestExactEveryWay(t *testing.T) {
	for _, l := range [][]float64{
		nil, {}, {0}, {noughtBelow}, {0, 0}, {noughtBelow, noughtBelow}, {0, noughtBelow}, {noughtBelow, 0}, {1, -1}, {1, -1, noughtBelow},
		{hole}, {hole, noughtBelow}, {hole, hole}, {inf}, {-inf}, {inf, inf, 1}, {-inf, 1, -inf}, {inf, -inf}, {-inf, 2.5, inf}, {inf, 0.5, hole}, {-inf, hole, noughtBelow},
		{hole, inf, -inf, 0, noughtBelow, 0.1, -0.1}, {inf, noughtBelow}, {0.1, 0.2, 0.3},
		{greatest, greatest}, {greatest, greatest, -greatest}, {-greatest, -greatest}, {greatest, 0x1p970}, {greatest, 0x1p969}, {-greatest, -0x1p970}, {greatest, 0x1p970, -least},
		{least}, {-least}, {least, least}, {normal, -least}, {-normal, least}, {normal, least}, {normal, -normal}, {0x1p-1000, -0x1p-1000, -3 * least},
		{1, 0x1p-53}, {1, 0x1p-53, least}, {1, 0x1p-53, -least}, {1, 0x1p-52, 0x1p-53}, {-1, -0x1p-53}, {0x1p53, 1, 1}, {1, least}, {-1, -least},
		{1e308, 1e308, -1e308}, {1e16, 1, -1e16}, {0x1p1000, 1, -0x1p1000},
	} {
		everyWay(t, l)
	}
	for _, x := range edges() {
		everyWay(t, []float64{x})
	}
	eachList(2, few(), func(l []float64) { everyWay(t, l) })
	for _, x := range odds() {
		everyWay(t, []float64{x})
		everyWay(t, []float64{x, 1, inf})
	}
}

// P10.1: lists of many sizes whose numbers cancel, or nearly.
func TestExactOfMany(t *testing.T) {
	d := dice(101)
	for n := range 120 {
		l := d.list(n)
		everyWay(t, l)
		if n%3 == 0 {
			everyWay(t, append(l, d.of(few()), d.of(few())))
		}
	}
	l := d.near(500)
	for _, x := range slices.Clone(l) {
		l = append(l, -x)
	}
	d.shuffle(l)
	everyWay(t, l)
	everyWay(t, append(l, -least))
}

// P10.1: a list of MaxList numbers is taken, one of one more is not, whatever they are.
func TestExactOfLongLists(t *testing.T) {
	d := dice(102)
	for _, l := range [][]float64{often(longest, greatest), often(longest, -least), often(longest, noughtBelow), often(longest, 0), d.near(longest)} {
		for mode := range 5 {
			x, e := Exact(l, mode, api.Policy{})
			is, want := right(l, mode, api.Policy{})
			answers(t, "MaxList numbers", x, e, is, want)
			x, e = Exact(append(l, 1), mode, api.Policy{})
			refuses(t, "one more", x, e, api.ErrLong)
		}
	}
	x, e := Exact(often(longest, -least), api.Even, api.Policy{})
	answers(t, "2^16 of the least, below nought", x, e, -0x1p-1058, api.OK)
	x, e = Exact(often(longest, greatest), api.Down, api.Policy{})
	answers(t, "2^16 of the greatest, down", x, e, greatest, api.OK)
	x, e = Exact(append(often(longest/2, greatest), often(longest/2, -greatest)...), api.Down, api.Policy{})
	answers(t, "as many of either sign, down", x, e, noughtBelow, api.OK)
}

// P10.1: a NaN of whatever bits is the one that is answered, wherever it stands.
func TestExactOfNaN(t *testing.T) {
	for _, x := range odds() {
		for i := range 5 {
			l := []float64{1, -inf, noughtBelow, greatest, inf}
			l[i] = x
			got, e := Exact(l, api.Up, api.Policy{})
			answers(t, "carried", got, e, hole, api.OK)
			got, e = Exact(l, api.Up, api.Policy{NaN: api.Refuse})
			refuses(t, "refused", got, e, api.ErrNaN)
		}
	}
	x, e := Exact([]float64{2, math.NaN(), 3}, api.Up, api.Policy{NaN: api.Pass, Inf: api.Refuse})
	answers(t, "passed over", x, e, 5, api.OK)
}
