package mean

import (
	"math"
	"slices"
	"testing"

	"steelyard/api"
)

// notFinite are NaNs of many bits, and both infinities.
func notFinite() []float64 { return append(odds(), inf, -inf) }

// special is n numbers of which the first are a NaN and two infinities, so that each policy has something to refuse.
func special(n int) []float64 {
	l := often(n, 1)
	copy(l, []float64{hole, inf, -inf})
	return l
}

// P13.1: a mode that is none, a policy that may not be, a list that is too long: these are told ahead of what stands in the list, and of a list of none.
func TestMeanRefusesArguments(t *testing.T) {
	strict := api.Policy{NaN: api.Refuse, Inf: api.Refuse}
	for _, n := range []int{0, 1, 3, longest, longest + 1, 2 * longest} {
		l := special(n)
		for _, mode := range noModes() {
			for _, p := range append(strangers(), strict, api.Policy{}) {
				x, e := Mean(l, mode, p)
				refuses(t, "a mode that is none", x, e, api.ErrArg)
			}
		}
		for mode := range 5 {
			for _, p := range strangers() {
				x, e := Mean(l, mode, p)
				refuses(t, "a policy that may not be", x, e, api.ErrArg)
			}
			if n <= longest {
				continue
			}
			for _, p := range policies() {
				x, e := Mean(l, mode, p)
				refuses(t, "a list that is too long", x, e, api.ErrLong)
				x, e = Mean(often(n, -1), mode, p)
				refuses(t, "a list that is too long", x, e, api.ErrLong)
			}
		}
	}
}

// P13.1: a NaN that is refused, an infinity that is, what is carried, none that is finite: the first of these is told, wherever they stand.
func TestMeanRefusesByPolicy(t *testing.T) {
	const carried = -1 // no error: a NaN, or an infinity
	for _, c := range []struct {
		name           string
		l              []float64
		strict         api.Errno // by {Refuse, Refuse}
		noNaN, noInf   int       // by {Refuse, Carry}, {Carry, Refuse}
		noNaNp, pnoInf int       // by {Refuse, Pass}, {Pass, Refuse}
		pass           int       // by {Pass, Pass}
	}{
		{"an infinity ahead of a NaN", nums(inf, hole), api.ErrNaN, 60, 61, 60, 61, 3},
		{"a NaN ahead of an infinity", nums(hole, 1, -inf), api.ErrNaN, 60, 61, 60, 61, 0},
		{"a NaN", nums(1, hole), api.ErrNaN, 60, carried, 60, 0, 0},
		{"a NaN alone", nums(hole), api.ErrNaN, 60, carried, 60, 3, 3},
		{"an infinity", nums(1, -inf), api.ErrEndless, carried, 61, 0, 61, 0},
		{"infinities of both signs alone", nums(inf, -inf), api.ErrEndless, carried, 61, 3, 61, 3},
		{"none", nums(), api.ErrNone, 3, 3, 3, 3, 3},
		{"noughts", nums(0, noughtBelow), api.OK, 0, 0, 0, 0, 0},
		{"a sum beyond all numbers", nums(greatest, greatest), api.OK, 0, 0, 0, 0, 0},
	} {
		for mode := range 5 {
			for p, want := range map[api.Policy]int{
				{NaN: api.Refuse, Inf: api.Refuse}: int(c.strict), {NaN: api.Refuse}: c.noNaN, {Inf: api.Refuse}: c.noInf,
				{NaN: api.Refuse, Inf: api.Pass}: c.noNaNp, {NaN: api.Pass, Inf: api.Refuse}: c.pnoInf, {NaN: api.Pass, Inf: api.Pass}: c.pass,
			} {
				x, e := Mean(c.l, mode, p)
				switch {
				case want > 0:
					refuses(t, c.name, x, e, api.Errno(want))
				case e != api.OK || (want == carried) != (x-x != 0):
					t.Errorf("%s, mode %d, %+v: %x, error %d", c.name, mode, p, x, e)
				}
			}
		}
	}
}

// P13.2: a mode that is none, a list that is too long, lists of unlike lengths, what is not finite, none, weights that come to nought: the first of these is told.
func TestWeightedRefusesInOrder(t *testing.T) {
	long, ones := often(longest+1, 1), nums(1, 1)
	for _, c := range []struct {
		name string
		l, w []float64
		e    api.Errno
	}{
		{"too long, first", long, nil, api.ErrLong},
		{"too long, second", nil, long, api.ErrLong},
		{"too long, both", long, long, api.ErrLong},
		{"too long, and not finite", append(often(longest, 1), inf), nums(hole), api.ErrLong},
		{"too long by one, the other as long as may be", often(longest, 1), long, api.ErrLong},
		{"one more", ones, nums(1), api.ErrLength},
		{"one less", nums(1), ones, api.ErrLength},
		{"none and one", nil, nums(1), api.ErrLength},
		{"one and none", nums(1), nil, api.ErrLength},
		{"unlike, and not finite", nums(hole), nil, api.ErrLength},
		{"unlike, and not finite weights", ones, nums(inf), api.ErrLength},
		{"unlike, and weights of nought", ones, nums(0), api.ErrLength},
		{"not finite, and weights of nought", nums(hole, 1), nums(1, -1), api.ErrOdd},
		{"weights that are not finite, and cancel", ones, nums(inf, -inf), api.ErrOdd},
		{"an infinity by a weight of nought", nums(1, inf), nums(1, 0), api.ErrOdd},
		{"none", nil, nil, api.ErrNone},
		{"none, not nil", nums(), nil, api.ErrNone},
		{"weights of nought", nums(5, 7), nums(0, 0), api.ErrNought},
		{"weights of either nought", nums(5, 7), nums(0, noughtBelow), api.ErrNought},
		{"weights that cancel", nums(5, 7, 9), nums(1, 2, -3), api.ErrNought},
		{"weights that cancel, numbers of nought", nums(0, 0), nums(1, -1), api.ErrNought},
		{"great and small weights that cancel", nums(5, 7, 9, 1), nums(greatest, least, -greatest, -least), api.ErrNought},
	} {
		for _, mode := range noModes() {
			x, e := Weighted(c.l, c.w, mode)
			refuses(t, c.name+", and a mode that is none", x, e, api.ErrArg)
		}
		for mode := range 5 {
			x, e := Weighted(c.l, c.w, mode)
			refuses(t, c.name, x, e, c.e)
		}
	}
}

// P13.2: what is not finite is refused at every place of either list.
func TestWeightedRefusesWhatIsNotFinite(t *testing.T) {
	for _, odd := range notFinite() {
		for i := range 4 {
			l := nums(1, 2, 3, 4)
			l[i] = odd
			for mode := range 5 {
				for _, other := range [][]float64{{1, 1, 1, 1}, {0, 0, 0, 0}, l} {
					x, e := Weighted(l, other, mode)
					refuses(t, "a number", x, e, api.ErrOdd)
					x, e = Weighted(other, l, mode)
					refuses(t, "a weight", x, e, api.ErrOdd)
				}
			}
		}
	}
}

// P13.3: a mode that is none ahead of a number that is not finite, whichever of the two it is.
func TestMiddleRefusesInOrder(t *testing.T) {
	for _, odd := range notFinite() {
		for _, other := range append(edges(), notFinite()...) {
			for _, c := range [][2]float64{{odd, other}, {other, odd}} {
				for _, mode := range noModes() {
					x, e := Middle(c[0], c[1], mode)
					refuses(t, "a mode that is none", x, e, api.ErrArg)
				}
				for mode := range 5 {
					x, e := Middle(c[0], c[1], mode)
					refuses(t, "not finite", x, e, api.ErrOdd)
				}
			}
		}
	}
	for _, mode := range noModes() {
		x, e := Middle(1, 2, mode)
		refuses(t, "a mode that is none", x, e, api.ErrArg)
	}
}

// long are Dyads whose form may not be, by their words or by their Exp.
func long() []api.Dyad {
	words := slices.Repeat(api.Nat{1}, api.MaxWords+1)
	return []api.Dyad{
		{Mag: api.Nat{1}, Exp: api.MaxExp + 1}, {Mag: api.Nat{1}, Exp: -api.MaxExp - 1}, {Neg: true, Mag: api.Nat{2}, Exp: api.MaxExp},
		{Mag: api.Nat{1}, Exp: math.MaxInt}, {Mag: api.Nat{1}, Exp: math.MinInt}, {Neg: true, Mag: api.Nat{6, 0}, Exp: math.MaxInt},
		{Mag: words}, {Neg: true, Mag: words, Exp: -5},
	}
}

// P13.4: a mode that is none, an n that is not 1 to MaxCount, a Dyad that is too long: the first of these is told.
func TestOfRefusesInOrder(t *testing.T) {
	sums := append(long(), api.Dyad{}, api.Dyad{Mag: api.Nat{7}})
	for i, sum := range sums {
		for _, n := range []int{1, 2, api.MaxCount, 0, -1, api.MaxCount + 1, math.MinInt, math.MaxInt, -api.MaxCount} {
			for _, mode := range noModes() {
				x, e := Of(sum, n, mode)
				refuses(t, "a mode that is none", x, e, api.ErrArg)
			}
			for mode := range 5 {
				x, e := Of(sum, n, mode)
				switch {
				case n < 1 || n > api.MaxCount:
					refuses(t, "an n that may not be", x, e, api.ErrArg)
				case i < len(long()):
					refuses(t, "a Dyad that is too long", x, e, api.ErrLong)
				case e != api.OK:
					t.Errorf("Of %+v by %d, mode %d: error %d", sum, n, mode, e)
				}
			}
		}
	}
}

// P13.5: a mode that is none, a k below nought, a list that is too long, a number that is not finite, none that is left: the first of these is told.
func TestTrimmedRefusesInOrder(t *testing.T) {
	for _, c := range []struct {
		name string
		l    []float64
		k    int
		e    api.Errno
	}{
		{"k below nought", nums(1), -1, api.ErrArg},
		{"k far below nought", nums(1, 2, 3), math.MinInt, api.ErrArg},
		{"k below nought, too long", often(longest+1, 1), -1, api.ErrArg},
		{"k below nought, not finite", nums(inf), -5, api.ErrArg},
		{"k below nought, none", nil, -1, api.ErrArg},
		{"too long", often(longest+1, 1), 0, api.ErrLong},
		{"too long, not finite", special(longest + 1), 1, api.ErrLong},
		{"too long, k past it", often(longest+1, 1), longest, api.ErrLong},
		{"not finite", nums(1, inf, 2), 0, api.ErrOdd},
		{"not finite, though it would be taken away", nums(1, inf, 2), 1, api.ErrOdd},
		{"less an infinity, though it would be taken away", nums(-inf, 1, 2), 1, api.ErrOdd},
		{"a NaN, though it would be taken away", nums(2, 1, hole), 1, api.ErrOdd},
		{"not finite, none left", nums(hole), 1, api.ErrOdd},
		{"not finite, k far past it", nums(-inf, 1), math.MaxInt, api.ErrOdd},
		{"none", nil, 0, api.ErrNone},
		{"none, not nil", nums(), 0, api.ErrNone},
		{"none, k far past it", nil, math.MaxInt, api.ErrNone},
		{"one, k 1", nums(1), 1, api.ErrNone},
		{"two, k 1", nums(1, 2), 1, api.ErrNone},
		{"three, k 2", nums(1, 2, 3), 2, api.ErrNone},
		{"k 2^62, twice which is no int", nums(1, 2, 3), 1 << 62, api.ErrNone},
		{"k 2^62 + 1", nums(1, 2, 3), 1<<62 + 1, api.ErrNone},
		{"k of all ones", nums(1, 2, 3), math.MaxInt, api.ErrNone},
		{"as long as may be, k half of it", often(longest, 1), longest / 2, api.ErrNone},
	} {
		for _, mode := range noModes() {
			x, e := Trimmed(c.l, c.k, mode)
			refuses(t, c.name+", and a mode that is none", x, e, api.ErrArg)
		}
		for mode := range 5 {
			x, e := Trimmed(c.l, c.k, mode)
			refuses(t, c.name, x, e, c.e)
		}
	}
	for _, odd := range notFinite() {
		for i := range 5 {
			l := nums(1, -2, 3, 0, 5)
			l[i] = odd
			for k := range 4 {
				x, e := Trimmed(l, k, api.Even)
				refuses(t, "not finite at every place", x, e, api.ErrOdd)
			}
		}
	}
}

// Ways: where a call goes out, +0 is beside an error, whatever stood there; without one nothing is changed.
func TestBeside(t *testing.T) {
	for _, x := range append(edges(), inf, -inf, hole) {
		for _, e := range []api.Errno{api.ErrArg, api.ErrLong, api.ErrNone, api.ErrLength, api.ErrNought, api.ErrOdd, api.ErrNaN, api.ErrEndless} {
			refuses(t, "an error", beside(e, x), e, e)
		}
		answers(t, "no error", beside(api.OK, x), api.OK, x, api.OK)
	}
}
