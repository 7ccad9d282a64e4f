package dot

import (
	"math"
	"testing"

	"steelyard/api"
)

// polyAs fails unless Poly answers by every mode as P12.4 says.
func polyAs(t *testing.T, c []float64, x float64) {
	t.Helper()
	all, _ := polyOf(c, x)
	for mode, is := range all {
		y, e := Poly(c, x, mode)
		if !sameBits(y, is) || e != api.OK {
			t.Errorf("Poly of %d numbers, %x .., at %x, mode %d: %x, error %d; want %x", len(c), brief(c), x, mode, y, e, is)
		}
	}
}

// binomial is (x - 1) to the power of n, multiplied out; up to 32 its numbers are whole ones below 2^53.
func binomial(n int) []float64 {
	c := nums(1)
	for range n {
		next := make([]float64, len(c)+1)
		for i, y := range c {
			next[i] -= y
			next[i+1] += y
		}
		c = next
	}
	return c
}

// term is x to the power of n alone.
func term(n int) []float64 { return append(make([]float64, n), 1) }

// P12.4: by hand, by each mode.
func TestPolyByHand(t *testing.T) {
	beyond, under := [5]float64{inf, greatest, inf, greatest, inf}, [5]float64{0, 0, least, 0, 0}
	less := [5]float64{-inf, -greatest, -greatest, -inf, -inf}
	underNought := [5]float64{noughtBelow, noughtBelow, noughtBelow, -least, noughtBelow}
	for _, c := range []struct {
		name string
		c    []float64
		x    float64
		is   [5]float64
	}{
		{"none", nil, 3, everyMode(0)},
		{"none, not nil, at -0", nums(), noughtBelow, everyMode(0)},
		{"one", nums(-2.5), greatest, everyMode(-2.5)},
		{"-0", nums(noughtBelow), 1, everyMode(0)},
		{"-0 twice", nums(noughtBelow, noughtBelow), 1, everyMode(0)},
		{"noughts at the greatest", often(highest, 0), greatest, everyMode(0)},
		{"at nought", nums(7, greatest, -1), 0, everyMode(7)},
		{"at -0", nums(noughtBelow, greatest, -1), noughtBelow, everyMode(0)},
		{"what cancels", nums(1, 2, 1), -1, everyMode(0)},
		{"2 - x^2 at 1.5", nums(2, 0, -1), 1.5, everyMode(-0.25)},
		{"below nought", nums(1, 1), -3, everyMode(-2)},
		{"as many ones as may be, at 1", often(highest, 1), 1, everyMode(33)},
		{"as many ones as may be, at -1", often(highest, 1), -1, everyMode(1)},
		{"as many ones as may be, at 2", often(highest, 1), 2, everyMode(0x1p33 - 1)},
		{"x^32 at 2^31", term(32), 0x1p31, everyMode(0x1p992)},
		{"x^32 at 2^32", term(32), 0x1p32, beyond},
		{"x^31 at -2^34", term(31), -0x1p34, less},
		{"x^32 at the greatest", term(32), greatest, beyond},
		{"x^32 at less the greatest", term(32), -greatest, beyond},
		{"x^31 at less the greatest", term(31), -greatest, less},
		{"x^32 at 2^-33", term(32), 0x1p-33, everyMode(0x1p-1056)},
		{"x^32 at 2^-34", term(32), 0x1p-34, under},
		{"x^32 at the least", term(32), least, under},
		{"x^31 at less the least", term(31), -least, underNought},
		{"half the least", nums(0, least), 0.5, [5]float64{0, 0, least, 0, least}},
		{"the greatest at the greatest", often(highest, greatest), greatest, beyond},
		{"the least at the least", often(highest, least), least, [5]float64{least, least, 2 * least, least, least}},
		{"the greatest, less the least part", nums(greatest, 0, -1), 0x1p-1000, [5]float64{greatest, math.Nextafter(greatest, 0), greatest, math.Nextafter(greatest, 0), greatest}},
		{"a middle", nums(1, 1), 0x1p-53, [5]float64{1, 1, 1 + 0x1p-52, 1, 1 + 0x1p-52}},
		{"just above a middle", append(nums(1, 1), term(30)...), 0x1p-53, [5]float64{1 + 0x1p-52, 1, 1 + 0x1p-52, 1, 1 + 0x1p-52}},
		{"just below a middle", append(nums(1, 1), append(make([]float64, 30), -1)...), 0x1p-53, [5]float64{1, 1, 1 + 0x1p-52, 1, 1}},
		{"(x - 1)^32 at 1", binomial(32), 1, everyMode(0)},
		{"(x - 1)^32 at 3", binomial(32), 3, everyMode(0x1p32)},
		{"(x - 1)^20 just above 1", binomial(20), 1 + 0x1p-52, everyMode(0x1p-1040)},
		{"(x - 1)^19 just below 1", binomial(19), 1 - 0x1p-52, everyMode(-0x1p-988)},
		{"(x - 1)^32 just above 1", binomial(32), 1 + 0x1p-52, under},
		{"(x - 1)^31 just below 1", binomial(31), 1 - 0x1p-53, underNought},
	} {
		for mode, is := range c.is {
			x, e := Poly(c.c, c.x, mode)
			answers(t, c.name, x, e, is, api.OK)
		}
		polyAs(t, c.c, c.x)
	}
}

// P12.4: each finite edge as x, with edges as c's numbers.
func TestPolyAtEdges(t *testing.T) {
	row := edges()
	for i, x := range row {
		for j, y := range row {
			polyAs(t, nums(y), x)
			polyAs(t, nums(0, y), x)
			polyAs(t, nums(y, row[(i+7*j)%len(row)], row[(3*i+j)%len(row)]), x)
		}
		for n := range highest {
			polyAs(t, term(n), x)
		}
		polyAs(t, row[:highest], x)
		polyAs(t, row[len(row)-highest:], x)
	}
}

// P12.4: as many numbers as there may be, and fewer, of like sizes and of all.
func TestPolyOfMany(t *testing.T) {
	d := dice(129)
	for i := range 400 {
		n := i % (highest + 1)
		polyAs(t, d.list(n, d.near()), d.sized(-3, 3))
		polyAs(t, d.list(n, d.near()), d.sized(-40, 40))
		polyAs(t, d.list(n, d.finite), d.finite())
		polyAs(t, d.list(n, d.finite), d.sized(-60, 60))
	}
}

// P12.4: near a root the terms cancel nearly, and what is left is told just so.
func TestPolyNearRoots(t *testing.T) {
	for n := 1; n < highest; n++ {
		c := binomial(n)
		x, y := 1.0, 1.0
		for range 12 {
			x, y = math.Nextafter(x, 2), math.Nextafter(y, 0)
			polyAs(t, c, x)
			polyAs(t, c, y)
		}
		for _, x := range []float64{1, 0.5, 2, -1, 1.25, 0x1p53 - 1} {
			polyAs(t, c, x)
		}
	}
	// c[0] is the nearest to what the others come to, with the other sign.
	d := dice(130)
	for range 300 {
		c, x := d.list(2+d.below(6), d.near()), d.sized(-2, 2)
		c[0] = 0
		all, _ := polyOf(c, x)
		if all[0]-all[0] == 0 {
			c[0] = -all[0]
		}
		polyAs(t, c, x)
	}
}
