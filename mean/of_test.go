package mean

import (
	"slices"
	"testing"

	"steelyard/api"
	"steelyard/dyad"
)

// ofAs fails unless Of answers by every mode as P13.4 says.
func ofAs(t *testing.T, sum api.Dyad, n int) {
	t.Helper()
	for mode, is := range ratioOnce(valueOf(sum), whole(n)) {
		x, e := Of(sum, n, mode)
		if !sameBits(x, is) || e != api.OK {
			t.Errorf("Of %v, %d words, Exp %d, by %d, mode %d: %x, error %d; want %x", sum.Neg, len(sum.Mag), sum.Exp, n, mode, x, e, is)
		}
	}
}

// counts are such that n may be: both ends, powers of two and what lies beside them.
func counts() []int {
	l := []int{1, 2, 3, 5, 7, 10, 1000, 1 << 32, 1<<32 + 1, 1<<32 - 1, api.MaxCount / 3, api.MaxCount - 1, api.MaxCount}
	return append(l, 1<<20, 1<<31, 65536, 65537)
}

// P13.4: by hand, by each mode.
func TestOfByHand(t *testing.T) {
	beyond := [5]float64{inf, greatest, inf, greatest, inf}
	for _, c := range []struct {
		name string
		sum  api.Dyad
		n    int
		is   [5]float64
	}{
		{"nought by 1", api.Dyad{}, 1, everyMode(0)},
		{"nought by MaxCount", api.Dyad{}, api.MaxCount, everyMode(0)},
		{"nought, not in its form", api.Dyad{Neg: true, Mag: api.Nat{0, 0}, Exp: -7}, 3, everyMode(0)},
		{"nought, far out", api.Dyad{Neg: true, Exp: 1 << 62}, 3, everyMode(0)},
		{"-7 by 2", dyad.Int(-7), 2, everyMode(-3.5)},
		{"1 by 3", dyad.Int(1), 3, [5]float64{0x1.5555555555555p-2, 0x1.5555555555555p-2, 0x1.5555555555556p-2, 0x1.5555555555555p-2, 0x1.5555555555555p-2}},
		{"-2 by 3", dyad.Int(-2), 3, [5]float64{-0x1.5555555555555p-1, -0x1.5555555555555p-1, -0x1.5555555555555p-1, -0x1.5555555555556p-1, -0x1.5555555555555p-1}},
		{"7 by MaxCount", dyad.Int(7), api.MaxCount, everyMode(0x1.cp-38)},
		{"7, not in its form", api.Dyad{Mag: api.Nat{0, 7, 0}, Exp: -32}, 2, everyMode(3.5)},
		{"-7, its words shifted", api.Dyad{Neg: true, Mag: api.Nat{14, 0, 0}, Exp: -1}, 2, everyMode(-3.5)},
		{"an Exp beyond, whose form may be", api.Dyad{Mag: api.Nat{4}, Exp: -api.MaxExp - 2}, 1, [5]float64{0, 0, least, 0, 0}},
		{"words beyond, whose form may be", api.Dyad{Mag: append(make(api.Nat, api.MaxWords+5), 6), Exp: -32 * (api.MaxWords + 5)}, 2, everyMode(3)},
		{"2^1063 by MaxCount", api.Dyad{Mag: api.Nat{1}, Exp: 1063}, api.MaxCount, everyMode(0x1p1023)},
		{"2^1064 by MaxCount", api.Dyad{Mag: api.Nat{1}, Exp: 1064}, api.MaxCount, beyond},
		{"2^1064 by one less", api.Dyad{Mag: api.Nat{1}, Exp: 1064}, api.MaxCount - 1, beyond},
		{"-2^1048576", api.Dyad{Neg: true, Mag: api.Nat{1}, Exp: api.MaxExp}, api.MaxCount, [5]float64{-inf, -greatest, -greatest, -inf, -inf}},
		{"2^-1034 by MaxCount", api.Dyad{Mag: api.Nat{1}, Exp: -1034}, api.MaxCount, everyMode(least)},
		{"2^-1035 by MaxCount", api.Dyad{Mag: api.Nat{1}, Exp: -1035}, api.MaxCount, [5]float64{0, 0, least, 0, least}},
		{"2^-1035 by one less", api.Dyad{Mag: api.Nat{1}, Exp: -1035}, api.MaxCount - 1, [5]float64{least, 0, least, 0, least}},
		{"-2^-1048576", api.Dyad{Neg: true, Mag: api.Nat{1}, Exp: -api.MaxExp}, api.MaxCount, [5]float64{noughtBelow, noughtBelow, noughtBelow, -least, noughtBelow}},
		{"a middle", api.Dyad{Mag: api.Nat{3, 3 << 21}, Exp: -53}, 3, [5]float64{1, 1, 1 + 0x1p-52, 1, 1 + 0x1p-52}},
	} {
		for mode, is := range c.is {
			x, e := Of(c.sum, c.n, mode)
			answers(t, c.name, x, e, is, api.OK)
		}
	}
}

// P13.4: edges, and sums of edges, by each count.
func TestOfEdges(t *testing.T) {
	for _, n := range counts() {
		for i, x := range edges() {
			sum, _ := dyad.Of(x)
			ofAs(t, sum, n)
			more, _ := dyad.Of(edges()[(7*i+3)%len(edges())])
			sum, _ = dyad.Add(sum, more)
			ofAs(t, sum, n)
		}
	}
}

// P13.4: Dyads of many lengths, in their form and not, near all numbers, and far out.
func TestOfMany(t *testing.T) {
	d := dice(137)
	for i := range 3000 {
		sum := api.Dyad{Neg: i%2 == 1, Exp: d.below(2400) - 1200}
		for range d.below(6) {
			sum.Mag = append(sum.Mag, uint32(d.roll()))
		}
		if d.below(3) == 0 {
			sum.Mag = append(append(api.Nat{0}, sum.Mag...), 0, 0)
		}
		ofAs(t, sum, 1+int(d.roll()%api.MaxCount))
		ofAs(t, sum, counts()[i%len(counts())])
	}
}

// P13.4: as many words as there may be.
func TestOfLongOnes(t *testing.T) {
	full := slices.Repeat(api.Nat{1<<32 - 1}, api.MaxWords)
	for _, n := range []int{1, 3, api.MaxCount - 1, api.MaxCount} {
		// 2^262144 less 1, at the greatest numbers, at 1, and at the least ones.
		for _, exp := range []int{-32*api.MaxWords + 1024, -32 * api.MaxWords, -32*api.MaxWords - 1070, api.MaxExp, -api.MaxExp} {
			ofAs(t, api.Dyad{Mag: full, Exp: exp}, n)
			ofAs(t, api.Dyad{Neg: true, Mag: full, Exp: exp}, n)
		}
	}
}
