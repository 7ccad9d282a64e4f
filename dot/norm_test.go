package dot

import (
	"math"
	"testing"

	"steelyard/api"
)

// normAs fails unless Norm answers by every mode as P12.2 says.
func normAs(t *testing.T, a []float64) {
	t.Helper()
	for mode, is := range normOf(a) {
		x, e := Norm(a, mode)
		if !sameBits(x, is) || e != api.OK {
			t.Errorf("Norm of %d numbers, %x .., mode %d: %x, error %d; want %x", len(a), brief(a), mode, x, e, is)
		}
	}
}

func everyMode(x float64) [5]float64 { return [5]float64{x, x, x, x, x} }

// legs are numbers whose squares come to the square of an odd whole number of 54 bits, which lies in the middle of two numbers.
func legs(m, n int) (a []float64, below, above float64) {
	h := m*m + n*n
	return nums(float64(m*m-n*n), float64(2*m*n)), float64(h - 1), float64(h + 1)
}

// P12.2: by hand, by each mode.
func TestNormByHand(t *testing.T) {
	beyond := [5]float64{inf, greatest, inf, greatest, inf}
	for _, c := range []struct {
		name string
		a    []float64
		is   [5]float64
	}{
		{"none", nil, everyMode(0)},
		{"none, not nil", nums(), everyMode(0)},
		{"+0", nums(0), everyMode(0)},
		{"-0", nums(noughtBelow), everyMode(0)},
		{"noughts", nums(noughtBelow, 0, noughtBelow), everyMode(0)},
		{"one below nought", nums(-7.5), everyMode(7.5)},
		{"the least", nums(-least), everyMode(least)},
		{"the greatest", nums(greatest), everyMode(greatest)},
		{"less the greatest", nums(-greatest, 0), everyMode(greatest)},
		{"the greatest and the least", nums(greatest, least), [5]float64{greatest, greatest, inf, greatest, greatest}},
		{"the greatest twice", nums(greatest, -greatest), beyond},
		{"3 and 4 times the least", nums(3*least, -4*least), everyMode(5 * least)},
		{"the least twice", nums(least, least), [5]float64{least, least, 2 * least, least, least}},
		{"the least thrice", nums(least, least, least), [5]float64{2 * least, least, 2 * least, least, 2 * least}},
		{"1, 1", nums(1, 1), [5]float64{1.4142135623730951, 1.414213562373095, 1.4142135623730951, 1.414213562373095, 1.4142135623730951}},
		{"1 and what is far below", nums(1, least), [5]float64{1, 1, 1 + 0x1p-52, 1, 1}},
		{"2^512 twice", nums(0x1p512, 0x1p512), [5]float64{0x1.6a09e667f3bcdp512, 0x1.6a09e667f3bccp512, 0x1.6a09e667f3bcdp512, 0x1.6a09e667f3bccp512, 0x1.6a09e667f3bcdp512}},
		{"four of 2^1022", nums(0x1p1022, 0x1p1022, 0x1p1022, -0x1p1022), everyMode(0x1p1023)},
		{"four of 2^1023", nums(0x1p1023, 0x1p1023, 0x1p1023, 0x1p1023), beyond},
		{"a NaN", nums(1, hole), everyMode(hole)},
		{"a NaN behind an infinity", nums(inf, hole), everyMode(hole)},
		{"a NaN ahead of an infinity", nums(hole, 0, -inf), everyMode(hole)},
		{"an infinity", nums(inf), everyMode(inf)},
		{"an infinity below nought", nums(1, -inf, 0), everyMode(inf)},
		{"infinities of two signs", nums(inf, -inf), everyMode(inf)},
	} {
		for mode, is := range c.is {
			x, e := Norm(c.a, mode)
			answers(t, c.name, x, e, is, api.OK)
		}
		normAs(t, c.a)
	}
}

// P12.2: roots that are just a middle, and that lie a little beside it.
func TestNormAtMiddles(t *testing.T) {
	d := dice(123)
	for i := range 300 {
		m := 90000000 + d.below(4000000)
		a, below, above := legs(m, m-1-2*d.below(1000))
		even := below
		if hex(below)%2 == 1 {
			even = above
		}
		// Times powers of two all stays as it is, and the squares lie beyond all numbers, or below them.
		for _, k := range []int{0, -600, 600, 969, -1074} {
			scaled := func(x float64) float64 { return math.Ldexp(x, k) }
			l := nums(scaled(a[0]), -scaled(a[1]))
			for mode, is := range [5]float64{even, below, above, below, above} {
				x, e := Norm(l, mode)
				answers(t, "a middle", x, e, scaled(is), api.OK)
			}
			normAs(t, append(l, math.Copysign(least, float64(i%2)-0.5)))
			normAs(t, nums(math.Nextafter(l[0], 0), l[1]))
			normAs(t, nums(math.Nextafter(l[0], inf), l[1]))
		}
	}
}

// P12.2: a NaN of whatever bits is the one that is answered.
func TestNormOfNaN(t *testing.T) {
	for _, odd := range odds() {
		for i := range 3 {
			a := nums(-inf, 2, greatest)
			a[i] = odd
			normAs(t, a)
			x, e := Norm(a, api.Even)
			answers(t, "a NaN", x, e, hole, api.OK)
		}
	}
}

// P12.2: lists of every kind, and of many lengths.
func TestNormOfMany(t *testing.T) {
	row := append(edges(), inf, -inf, hole)
	eachList(2, row, func(l []float64) { normAs(t, l) })
	eachList(3, few(), func(l []float64) { normAs(t, l) })
	d := dice(124)
	for n := range 300 {
		normAs(t, d.list(n, d.near()))
		normAs(t, d.list(n%20, d.finite))
		normAs(t, d.list(n%9, d.any))
		normAs(t, d.list(1+n%5, func() float64 { return d.sized(-1074, -1060) }))
		normAs(t, d.list(1+n%5, func() float64 { return d.sized(1020, 1023) }))
	}
}

// P12.2: lists of MaxList numbers are taken, whatever they come to.
func TestNormOfLongLists(t *testing.T) {
	for _, c := range []struct {
		name string
		x    float64
		is   [5]float64
	}{
		{"2^16 of the greatest", greatest, [5]float64{inf, greatest, inf, greatest, inf}},
		{"2^16 of less the greatest", -greatest, [5]float64{inf, greatest, inf, greatest, inf}},
		{"2^16 of the greatest by 256", greatest / 256, everyMode(greatest)},
		{"2^16 of the least", least, everyMode(256 * least)},
		{"2^16 of -0", noughtBelow, everyMode(0)},
		{"2^16 of 0.1", 0.1, everyMode(256 * 0.1)},
	} {
		for mode, is := range c.is {
			x, e := Norm(often(longest, c.x), mode)
			answers(t, c.name, x, e, is, api.OK)
		}
	}
	d := dice(125)
	normAs(t, d.list(longest, d.near()))
}
