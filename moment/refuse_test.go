package moment

import (
	"math"
	"testing"

	"steelyard/api"
	"steelyard/dyad"
)

// notFinite are NaNs of many bits, and both infinities.
func notFinite() []float64 { return append(odds(), inf, -inf) }

// special is n numbers of which the first are a NaN and two infinities, so that each policy has something to refuse.
func special(n int) []float64 {
	l := often(n, 1)
	copy(l, []float64{hole, inf, -inf})
	return l
}

// either is Var and Std.
func either() map[string]func(l []float64, less, mode int, p api.Policy) (float64, api.Errno) {
	return map[string]func(l []float64, less, mode int, p api.Policy) (float64, api.Errno){"Var": Var, "Std": Std}
}

// P14.1: a mode that is none, a policy that may not be, a less that is not 0 or 1, alone and together: ahead of a list that is too long, of what stands in it, and of a list of none; then a list that is too long.
func TestVarRefusesArguments(t *testing.T) {
	strict := api.Policy{NaN: api.Refuse, Inf: api.Refuse}
	for name, call := range either() {
		for _, n := range []int{0, 1, 3, longest, longest + 1, 2 * longest} {
			l := special(n)
			for _, less := range append(noLess(), 0, 1) {
				for _, mode := range noModes() {
					for _, p := range append(strangers(), strict, api.Policy{}) {
						x, e := call(l, less, mode, p)
						refuses(t, name+": a mode that is none", x, e, api.ErrArg)
					}
				}
				for mode := range 5 {
					for _, p := range strangers() {
						x, e := call(l, less, mode, p)
						refuses(t, name+": a policy that may not be", x, e, api.ErrArg)
					}
				}
			}
			for mode := range 5 {
				for _, p := range policies() {
					for _, less := range noLess() {
						x, e := call(l, less, mode, p)
						refuses(t, name+": a less that may not be", x, e, api.ErrArg)
					}
					if n <= longest {
						continue
					}
					for less := range 2 {
						x, e := call(l, less, mode, p)
						refuses(t, name+": a list that is too long", x, e, api.ErrLong)
						x, e = call(often(n, -1), less, mode, p)
						refuses(t, name+": a list that is too long", x, e, api.ErrLong)
					}
				}
			}
		}
	}
}

// P14.1: a NaN that is refused, an infinity that is, what is carried, too few that are finite: the first of these is told, wherever they stand.
func TestVarRefusesByPolicy(t *testing.T) {
	const carried = -1 // no error: the NaN
	for _, c := range []struct {
		name           string
		l              []float64
		strict         int // by {Refuse, Refuse}
		noNaN, noInf   int // by {Refuse, Carry}, {Carry, Refuse}
		noNaNp, pnoInf int // by {Refuse, Pass}, {Pass, Refuse}
		pass           int // by {Pass, Pass}
	}{
		{"an infinity ahead of a NaN", nums(inf, hole), 60, 60, 61, 60, 61, 3},
		{"a NaN ahead of an infinity", nums(hole, 1, -inf, 2), 60, 60, 61, 60, 61, 0},
		{"a NaN, an infinity and one", nums(hole, 1, -inf), 60, 60, 61, 60, 61, 3},
		{"a NaN", nums(1, hole, 2), 60, 60, carried, 60, 0, 0},
		{"a NaN and one", nums(1, hole), 60, 60, carried, 60, 3, 3},
		{"a NaN alone", nums(hole), 60, 60, carried, 60, 3, 3},
		{"an infinity", nums(1, -inf, 2), 61, carried, 61, 0, 61, 0},
		{"an infinity and one", nums(1, inf), 61, carried, 61, 3, 61, 3},
		{"infinities of both signs alone", nums(inf, -inf), 61, carried, 61, 3, 61, 3},
		{"none", nums(), 3, 3, 3, 3, 3, 3},
		{"one", nums(greatest), 3, 3, 3, 3, 3, 3},
		{"noughts", nums(0, noughtBelow), 0, 0, 0, 0, 0, 0},
		{"a spread beyond all numbers", nums(greatest, -greatest), 0, 0, 0, 0, 0, 0},
	} {
		for name, call := range either() {
			for mode := range 5 {
				for p, want := range map[api.Policy]int{
					{NaN: api.Refuse, Inf: api.Refuse}: c.strict, {NaN: api.Refuse}: c.noNaN, {Inf: api.Refuse}: c.noInf,
					{NaN: api.Refuse, Inf: api.Pass}: c.noNaNp, {NaN: api.Pass, Inf: api.Refuse}: c.pnoInf, {NaN: api.Pass, Inf: api.Pass}: c.pass,
				} {
					x, e := call(c.l, 1, mode, p)
					switch {
					case want > 0:
						refuses(t, name+": "+c.name, x, e, api.Errno(want))
					case want == carried:
						answers(t, name+": "+c.name, x, e, hole, api.OK)
					case e != api.OK || x != x:
						t.Errorf("%s: %s, mode %d, %+v: %x, error %d", name, c.name, mode, p, x, e)
					}
				}
			}
		}
	}
}

// P14.2: a mode that is none, a k that is not 1 to 4, a list that is too long, a number that is not finite, none: the first of these is told.
func TestCentralRefusesInOrder(t *testing.T) {
	for _, c := range []struct {
		name string
		l    []float64
		k    int
		e    api.Errno
	}{
		{"k 0", nums(1), 0, api.ErrArg},
		{"k 5", nums(1), 5, api.ErrArg},
		{"k far below nought", nums(1, 2), math.MinInt, api.ErrArg},
		{"k 0, too long", often(longest+1, 1), 0, api.ErrArg},
		{"k 5, too long, not finite", special(longest + 1), 5, api.ErrArg},
		{"k -1, not finite", nums(inf), -1, api.ErrArg},
		{"k 5, none", nil, 5, api.ErrArg},
		{"too long", often(longest+1, 1), 1, api.ErrLong},
		{"too long, not finite", special(longest + 1), 4, api.ErrLong},
		{"far too long", often(2*longest, 0), 2, api.ErrLong},
		{"not finite", nums(1, inf, 2), 3, api.ErrOdd},
		{"not finite, k 1", nums(1, 2, hole), 1, api.ErrOdd},
		{"not finite alone", nums(-inf), 2, api.ErrOdd},
		{"the last of as many as may be is not finite", append(often(longest-1, 1), hole), 1, api.ErrOdd},
		{"none", nil, 1, api.ErrNone},
		{"none, not nil", nums(), 4, api.ErrNone},
	} {
		for _, mode := range noModes() {
			x, e := Central(c.l, c.k, mode)
			refuses(t, c.name+", and a mode that is none", x, e, api.ErrArg)
		}
		for mode := range 5 {
			x, e := Central(c.l, c.k, mode)
			refuses(t, c.name, x, e, c.e)
		}
	}
	for _, odd := range notFinite() {
		for i := range 5 {
			l := nums(1, -2, 3, 0, 5)
			l[i] = odd
			for k := 1; k <= 4; k++ {
				x, e := Central(l, k, api.Even)
				refuses(t, "not finite at every place", x, e, api.ErrOdd)
			}
		}
	}
}

// twoLists are pairs of lists of which something is refused that Co and Link refuse alike.
func twoLists() []struct {
	name string
	a, b []float64
	e    api.Errno
} {
	tooLong, ones := often(longest+1, 1), nums(1, 1)
	return []struct {
		name string
		a, b []float64
		e    api.Errno
	}{
		{"too long, first", tooLong, nil, api.ErrLong},
		{"too long, second", nil, tooLong, api.ErrLong},
		{"too long, both", tooLong, tooLong, api.ErrLong},
		{"too long, first, the other not finite", tooLong, nums(inf), api.ErrLong},
		{"too long, and not finite", nums(hole), special(longest + 1), api.ErrLong},
		{"too long by one, the other as long as may be", often(longest, 1), tooLong, api.ErrLong},
		{"one more", ones, nums(1), api.ErrLength},
		{"one less", nums(1), ones, api.ErrLength},
		{"none and one", nil, nums(1), api.ErrLength},
		{"one and none", nums(1), nil, api.ErrLength},
		{"unlike, and not finite, first", nums(hole), nil, api.ErrLength},
		{"unlike, and not finite, second", ones, nums(inf), api.ErrLength},
		{"as long as may be, and one less", often(longest, 1), often(longest-1, 2), api.ErrLength},
		{"not finite, one alone", nums(hole), nums(1), api.ErrOdd},
		{"not finite, the other one alone", nums(1), nums(-inf), api.ErrOdd},
		{"not finite, both", nums(1, inf), nums(hole, 2), api.ErrOdd},
		{"not finite, the other one doesn't vary", nums(1, inf), nums(5, 5), api.ErrOdd},
		{"not finite, at a nought's place", nums(0, 1), nums(inf, 2), api.ErrOdd},
		{"none", nil, nil, api.ErrNone},
		{"none, not nil", nums(), nil, api.ErrNone},
	}
}

// P14.3: a mode that is none, a less that is not 0 or 1, a list that is too long, lists of unlike lengths, what is not finite, too few: the first of these is told.
func TestCoRefusesInOrder(t *testing.T) {
	check := func(name string, a, b []float64, off int, want api.Errno) {
		for _, mode := range noModes() {
			x, e := Co(a, b, off, mode)
			refuses(t, name+", and a mode that is none", x, e, api.ErrArg)
		}
		for mode := range 5 {
			x, e := Co(a, b, off, mode)
			refuses(t, name, x, e, want)
		}
	}
	for _, c := range twoLists() {
		for off := range 2 {
			check(c.name, c.a, c.b, off, c.e)
		}
		for _, off := range noLess() {
			check(c.name+", and a less that may not be", c.a, c.b, off, api.ErrArg)
		}
	}
	for _, off := range noLess() {
		check("a less that may not be", nums(1, 2), nums(3, 4), off, api.ErrArg)
	}
	check("one, less 1", nums(1), nums(2), 1, api.ErrNone)
	check("one, not finite, less 1", nums(1), nums(hole), 1, api.ErrOdd)
}

// P14.4: a mode that is none, a list that is too long, lists of unlike lengths, what is not finite, none, a list that doesn't vary: the first of these is told.
func TestLinkRefusesInOrder(t *testing.T) {
	check := func(name string, a, b []float64, want api.Errno) {
		for _, mode := range noModes() {
			x, e := Link(a, b, mode)
			refuses(t, name+", and a mode that is none", x, e, api.ErrArg)
		}
		for mode := range 5 {
			x, e := Link(a, b, mode)
			refuses(t, name, x, e, want)
		}
	}
	for _, c := range twoLists() {
		check(c.name, c.a, c.b, c.e)
	}
	flat := [][]float64{{5, 5, 5}, {0, noughtBelow, 0}, {noughtBelow, noughtBelow, noughtBelow}, {greatest, greatest, greatest}, {-least, -least, -least}, {0.1, 0.1, 0.1}}
	for _, l := range flat {
		for _, other := range append(flat, nums(1, 2, 3), nums(greatest, least, -greatest)) {
			check("a list that doesn't vary", l, other, api.ErrFlat)
			check("a list that doesn't vary, second", other, l, api.ErrFlat)
		}
	}
	check("one", nums(1), nums(2), api.ErrFlat)
	check("one of both noughts", nums(0), nums(noughtBelow), api.ErrFlat)
	check("as many as may be, all the same", often(longest, 0.1), often(longest, 0.1), api.ErrFlat)
}

// P14.3, P14.4: what is not finite is refused at every place of either list.
func TestTwoListsRefuseWhatIsNotFinite(t *testing.T) {
	for _, odd := range notFinite() {
		for i := range 4 {
			l := nums(1, 2, 3, 4)
			l[i] = odd
			for mode := range 5 {
				for _, other := range [][]float64{{1, 0, 2, 1}, {0, 0, 0, 0}, l} {
					x, e := Co(l, other, i%2, mode)
					refuses(t, "Co, first", x, e, api.ErrOdd)
					x, e = Co(other, l, i%2, mode)
					refuses(t, "Co, second", x, e, api.ErrOdd)
					x, e = Link(l, other, mode)
					refuses(t, "Link, first", x, e, api.ErrOdd)
					x, e = Link(other, l, mode)
					refuses(t, "Link, second", x, e, api.ErrOdd)
				}
			}
		}
	}
}

// P14.5: a mode that is none, an n that is not 1 to MaxCount, a less that is not 0 or 1, what is too long, too few: the first of these is told.
func TestOfRefusesInOrder(t *testing.T) {
	noCounts := []int{0, -1, api.MaxCount + 1, 2 * api.MaxCount, -api.MaxCount, math.MinInt, math.MaxInt}
	sums := append(long(), dyad.Int(0), dyad.Int(7), two(api.MaxExp/2+1))
	refused := func(what string, n, off, mode int, sum, squares api.Dyad, want api.Errno) {
		t.Helper()
		x, e := Of(n, sum, squares, off, mode)
		refuses(t, what, x, e, want)
	}
	for _, d := range sums {
		for _, n := range append(noCounts, 1, 2, api.MaxCount) {
			for _, off := range append(noLess(), 0, 1) {
				for _, mode := range noModes() {
					refused("a mode that is none", n, off, mode, d, dyad.Int(1), api.ErrArg)
				}
			}
			for _, off := range noLess() {
				refused("a less that may not be", n, off, api.Even, d, dyad.Int(1), api.ErrArg)
				refused("a less that may not be", n, off, api.Away, dyad.Int(1), d, api.ErrArg)
			}
		}
		for _, n := range noCounts {
			for off := range 2 {
				for mode := range 5 {
					refused("an n that may not be", n, off, mode, d, d, api.ErrArg)
				}
			}
		}
	}
	for _, d := range long() {
		for _, n := range []int{1, 2, api.MaxCount} {
			for off := range 2 {
				for mode := range 5 {
					refused("a sum that may not be", n, off, mode, d, dyad.Int(1), api.ErrLong)
					refused("a sum that may not be, squares of nought", n, off, mode, d, api.Dyad{}, api.ErrLong)
					refused("squares that may not be", n, off, mode, dyad.Int(1), d, api.ErrLong)
					refused("squares that may not be, a sum of nought", n, off, mode, api.Dyad{}, d, api.ErrLong)
					refused("neither may be", n, off, mode, d, d, api.ErrLong)
				}
			}
		}
	}
	for mode := range 5 {
		refused("one, less 1", 1, 1, mode, dyad.Int(3), dyad.Int(9), api.ErrNone)
		refused("one, less 1, noughts", 1, 1, mode, api.Dyad{}, api.Dyad{}, api.ErrNone)
		refused("one, less 1, a sum whose square is too long", 1, 1, mode, two(api.MaxExp/2+1), dyad.Int(1), api.ErrLong)
		refused("one, less 1, too far apart", 1, 1, mode, dyad.Int(1), two(300000), api.ErrLong)
	}
}
