package moment

import (
	"math"
	"slices"
	"testing"

	"steelyard/api"
	"steelyard/dyad"
)

const full = 1<<32 - 1

// two is 2^exp in its form, be it one that may be or not.
func two(exp int) api.Dyad { return api.Dyad{Mag: api.Nat{1}, Exp: exp} }

// less is d with the other sign.
func less(d api.Dyad) api.Dyad { return api.Dyad{Neg: !d.Neg, Mag: d.Mag, Exp: d.Exp} }

// ones is 2^n - 1.
func ones(n int) api.Dyad {
	mag := slices.Repeat(api.Nat{full}, n/32)
	if n%32 > 0 {
		mag = append(mag, 1<<(n%32)-1)
	}
	return api.Dyad{Mag: mag}
}

// long are Dyads whose form may not be, by their words or by their Exp.
func long() []api.Dyad {
	words := slices.Repeat(api.Nat{1}, api.MaxWords+1)
	return []api.Dyad{
		two(api.MaxExp + 1), two(-api.MaxExp - 1), {Neg: true, Mag: api.Nat{2}, Exp: api.MaxExp}, two(math.MaxInt), less(two(math.MinInt)),
		{Mag: api.Nat{6, 0}, Exp: math.MaxInt}, {Mag: words}, {Neg: true, Mag: words, Exp: -5}, ones(32*api.MaxWords + 1),
	}
}

// counts are such that n may be: both ends, powers of two and what lies beside them.
func counts() []int {
	return []int{1, 2, 3, 5, 7, 10, 1000, 65536, 1 << 20, 1 << 31, 1 << 32, 1<<32 + 1, 1<<32 - 1, api.MaxCount / 3, api.MaxCount - 1, api.MaxCount}
}

// ofAs fails unless Of answers by either less, by these modes, as P14.5 says.
func ofAs(t *testing.T, n int, sum, squares api.Dyad, modes ...int) {
	t.Helper()
	for off := range 2 {
		want, wantE := ofBy(n, sum, squares, off)
		for _, mode := range modes {
			x, e := Of(n, sum, squares, off, mode)
			if !sameBits(x, want[mode]) || e != wantE {
				t.Errorf("Of %d, a sum of %d words, Exp %d, squares of %d words, Exp %d, less %d, mode %d: %x, error %d; want %x, error %d", n, len(sum.Mag), sum.Exp, len(squares.Mag), squares.Exp, off, mode, x, e, want[mode], wantE)
			}
		}
	}
}

// P14.5: by hand, by each mode.
func TestOfByHand(t *testing.T) {
	for _, c := range []struct {
		name         string
		n            int
		sum, squares api.Dyad
		less         int
		is           [5]float64
	}{
		{"noughts", 3, api.Dyad{}, api.Dyad{}, 1, everyMode(0)},
		{"one", 1, dyad.Int(3), dyad.Int(9), 0, everyMode(0)},
		{"one, more than its square", 1, dyad.Int(3), dyad.Int(10), 0, everyMode(1)},
		{"one, less than its square", 1, dyad.Int(-3), dyad.Int(8), 0, everyMode(-1)},
		{"all the same", 4, dyad.Int(-4), dyad.Int(4), 0, everyMode(0)},
		{"two, less 1", 2, dyad.Int(10), dyad.Int(1), 1, everyMode(-49)},
		{"squares below nought", 2, dyad.Int(0), dyad.Int(-3), 0, everyMode(-1.5)},
		{"-1/9", 3, dyad.Int(1), dyad.Int(0), 0, byModes(-0x1.c71c71c71c71cp-4, -0x1.c71c71c71c71cp-4, -0x1.c71c71c71c71dp-4)},
		{"-1/6", 3, dyad.Int(-1), dyad.Int(0), 1, byModes(-0x1.5555555555555p-3, -0x1.5555555555555p-3, -0x1.5555555555556p-3)},
		{"MaxCount", api.MaxCount, dyad.Int(0), two(40), 0, everyMode(1)},
		{"MaxCount, less 1", api.MaxCount, dyad.Int(0), two(40), 1, byModes(1+0x1p-40, 1+0x1p-40, 1+0x1p-40+0x1p-52)},
		{"MaxCount of ones", api.MaxCount, two(40), two(40), 1, everyMode(0)},
		{"MaxCount, below nought", api.MaxCount, two(41), dyad.Int(1), 0, everyMode(-4 + 0x1p-40)},
		{"not in their form", 4, api.Dyad{Neg: true, Mag: api.Nat{0, 10, 0}, Exp: -32}, api.Dyad{Mag: api.Nat{15, 0, 0}, Exp: 1}, 0, everyMode(1.25)},
		{"noughts that are not in their form", 4, api.Dyad{Neg: true, Mag: api.Nat{0, 0}, Exp: math.MaxInt}, api.Dyad{Neg: true, Exp: math.MinInt}, 0, everyMode(0)},
		{"words beyond, whose form may be", 2, dyad.Int(0), api.Dyad{Mag: append(make(api.Nat, api.MaxWords+5), 6), Exp: -32 * (api.MaxWords + 5)}, 0, everyMode(3)},
		{"an Exp beyond, whose form may be", 1, dyad.Int(0), api.Dyad{Mag: api.Nat{4}, Exp: -api.MaxExp - 2}, 0, under()},
		{"2^1023", 1, dyad.Int(0), two(1023), 0, everyMode(0x1p1023)},
		{"2^1024", 1, dyad.Int(0), two(1024), 0, beyond()},
		{"-2^1024", 1, two(512), dyad.Int(0), 0, beyondBelow()},
		{"2^1048576", 1, dyad.Int(0), two(api.MaxExp), 0, beyond()},
		{"-2^1048576", 1, two(api.MaxExp / 2), dyad.Int(0), 0, beyondBelow()},
		{"2^-1074", 1, dyad.Int(0), two(-1074), 0, everyMode(least)},
		{"2^-1075", 2, dyad.Int(0), two(-1074), 0, [5]float64{0, 0, least, 0, least}},
		{"-2^-1075", 2, dyad.Int(0), less(two(-1074)), 0, [5]float64{noughtBelow, noughtBelow, noughtBelow, -least, -least}},
		{"2^-1048576", 1, dyad.Int(0), two(-api.MaxExp), 0, under()},
		{"-2^-1048576", 1, two(-api.MaxExp / 2), dyad.Int(0), 0, underBelow()},
		{"as many words as there may be, just below 1/4", 2, dyad.Int(1), api.Dyad{Mag: ones(32 * api.MaxWords).Mag, Exp: -32 * api.MaxWords}, 0, byModes(0.25, 0.25-0x1p-55, 0.25)},
		{"great ones that cancel", 1, two(600), two(1200), 0, everyMode(0)},
		{"great ones that cancel but for one", 1, two(600), api.Dyad{Mag: append(append(api.Nat{1}, make(api.Nat, 36)...), 1<<16)}, 0, everyMode(1)},
	} {
		for mode, is := range c.is {
			x, e := Of(c.n, c.sum, c.squares, c.less, mode)
			answers(t, c.name, x, e, is, api.OK)
		}
	}
}

// P14.5: what package dyad refuses of n times squares, of the sum's square, of their difference; and what lies just within.
func TestOfAtLimits(t *testing.T) {
	most := 32 * api.MaxWords
	for _, c := range []struct {
		name         string
		n            int
		sum, squares api.Dyad
		e            api.Errno
	}{
		{"n times squares: a word too many", 3, dyad.Int(0), ones(most), api.ErrLong},
		{"n times squares: no bit more", 2, dyad.Int(0), ones(most), api.OK},
		{"n times squares: no bit more", api.MaxCount, dyad.Int(0), ones(most), api.OK},
		{"n times squares: a bit too many", 3, dyad.Int(0), ones(most - 1), api.ErrLong},
		{"n times squares: as many bits as there may be", 3, dyad.Int(0), ones(most - 2), api.OK},
		{"n times squares: an Exp too great", 2, dyad.Int(0), two(api.MaxExp), api.ErrLong},
		{"n times squares: the greatest Exp", 3, dyad.Int(0), two(api.MaxExp), api.OK},
		{"n times squares: an Exp too great, below nought", api.MaxCount, dyad.Int(0), less(two(api.MaxExp - 39)), api.ErrLong},
		{"n times squares: the greatest Exp", api.MaxCount, dyad.Int(0), two(api.MaxExp - 40), api.OK},
		{"the sum's square: a bit too many", 2, ones(most/2 + 1), dyad.Int(0), api.ErrLong},
		{"the sum's square: as many bits as there may be", 2, ones(most / 2), dyad.Int(0), api.OK},
		{"the sum's square: an Exp too great", 2, two(api.MaxExp/2 + 1), dyad.Int(0), api.ErrLong},
		{"the sum's square: the greatest Exp", 2, less(two(api.MaxExp / 2)), dyad.Int(0), api.OK},
		{"the sum's square: an Exp too small", 2, less(two(-api.MaxExp/2 - 1)), dyad.Int(0), api.ErrLong},
		{"the sum's square: the least Exp", 2, two(-api.MaxExp / 2), dyad.Int(0), api.OK},
		{"the difference: too far apart", 1, dyad.Int(1), two(most), api.ErrLong},
		{"the difference: as far apart as may be", 1, dyad.Int(1), two(most - 1), api.OK},
		{"the difference: too far apart the other way round", 1, two(most / 2), dyad.Int(1), api.ErrLong},
		{"the difference: as far apart the other way round", 1, two(most/2 - 1), dyad.Int(1), api.OK},
		{"the difference: a bit too many", 1, dyad.Int(2), less(ones(most)), api.ErrLong},
		{"the difference: a bit too many, but not in its form", 1, dyad.Int(3), less(ones(most)), api.OK},
		{"the difference: too far apart, though little is left", 1, two(most / 2), ones(most), api.ErrLong},
		{"far out, with nought beside", 1, dyad.Int(0), two(300000), api.OK},
		{"far out, what cancels", 1, two(300000), two(600000), api.OK},
	} {
		for off := range 2 {
			for _, mode := range []int{api.Even, api.Up} {
				_, e := Of(c.n, c.sum, c.squares, off, mode)
				want := c.e
				if want == api.OK && c.n == off {
					want = api.ErrNone
				}
				if e != want {
					t.Errorf("%s, n %d, less %d: error %d, want %d", c.name, c.n, off, e, want)
				}
			}
		}
		ofAs(t, c.n, c.sum, c.squares, api.Down)
	}
}

// P14.5: sums and squares of all sizes, each with each.
func TestOfEachWithEach(t *testing.T) {
	most := 32 * api.MaxWords
	sums := append(long(), api.Dyad{}, dyad.Int(1), dyad.Int(-3), api.Dyad{Neg: true, Mag: api.Nat{0, 0, 8, 0}, Exp: -70}, two(most/2), two(most/2-1), less(two(api.MaxExp/2)), two(api.MaxExp/2+1), two(-api.MaxExp/2), less(two(-api.MaxExp/2-1)), two(500), two(-537))
	squares := append(long(), api.Dyad{}, dyad.Int(1), dyad.Int(-1), two(most-1), two(most), ones(most), less(ones(most)), ones(most-2), two(api.MaxExp), two(api.MaxExp-40), less(two(-api.MaxExp)), two(1000), two(-1074))
	at := 0
	for _, n := range []int{1, 2, 3, api.MaxCount - 1, api.MaxCount} {
		for _, s := range sums {
			for _, q := range squares {
				at++
				ofAs(t, n, s, q, at%5)
			}
		}
	}
}

// P14.5: edges and their squares, by each count.
func TestOfEdges(t *testing.T) {
	for _, n := range counts() {
		for i, x := range edges() {
			sum, _ := dyad.Of(x)
			more, _ := dyad.Of(edges()[(7*i+3)%len(edges())])
			ofAs(t, n, sum, times(more, more), 0, 1, 2, 3, 4)
			ofAs(t, n, sum, times(sum, sum), 0, 1, 2, 3, 4)
			ofAs(t, n, sum, more, i%5)
		}
	}
}

// P14.5: Dyads of many lengths, in their form and not; squares close to what the sum's square by n is, above and below.
func TestOfMany(t *testing.T) {
	d := dice(171)
	throw := func() api.Dyad {
		x := api.Dyad{Neg: d.below(2) == 1, Exp: d.below(1400) - 700}
		for range d.below(6) {
			x.Mag = append(x.Mag, uint32(d.roll()))
		}
		if d.below(3) == 0 {
			x.Mag = append(append(api.Nat{0}, x.Mag...), 0, 0)
		}
		return x
	}
	for i := range 1000 {
		n, sum := 1+int(d.roll()%api.MaxCount), throw()
		ofAs(t, n, sum, throw(), i%5)
		ofAs(t, counts()[i%len(counts())], sum, throw(), i%5)
		// Of 2^j numbers, so that there is such a square just so.
		j := d.below(41)
		near := times(times(sum, sum), two(-j))
		ofAs(t, 1<<j, sum, near, 0, 1, 2, 3, 4)
		little, _ := dyad.Make(i%2 == 0, api.Nat{1}, near.Exp-d.below(200))
		ofAs(t, 1<<j, sum, plus(near, little), 0, 1, 2, 3, 4)
	}
}
