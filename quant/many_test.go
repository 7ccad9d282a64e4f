package quant

import (
	"math"
	"testing"
)

// dens are such as shares are often counted by, and the ends of what may be.
func dens() []int { return []int{1, 2, 3, 4, 7, 10, finest - 1, finest} }

// P16.2: all lists of one, two and three numbers of every kind, at many shares.
func TestShortLists(t *testing.T) {
	for n := 1; n < 4; n++ {
		eachList(n, few(), func(l []float64) {
			for _, den := range []int{1, 2, 3, 4} {
				for num := range den + 1 {
					quantiles(t, l, num, den)
				}
			}
			for _, num := range []int{0, 1, finest/2 - 1, finest / 2, finest/2 + 1, finest - 1, finest} {
				quantiles(t, l, num, finest)
			}
		})
	}
}

// P16.2: pairs of edges, at every share of some dens.
func TestPairsOfEdges(t *testing.T) {
	eachList(2, edges(), func(l []float64) {
		for num := range 4 {
			quantiles(t, l, num, 3)
		}
		quantiles(t, l, 1, 2)
		quantiles(t, l, 1, finest)
		quantiles(t, l, finest-1, finest)
	})
}

// P16.2: longer lists, by shares of any kind.
func TestManyLists(t *testing.T) {
	d := dice(181)
	for n := 1; n < 60; n++ {
		for _, throw := range d.throws() {
			l := d.list(n, throw)
			for range 8 {
				num, den := d.share()
				quantiles(t, l, num, den)
			}
			for _, den := range dens() {
				quantiles(t, l, 0, den)
				quantiles(t, l, den, den)
				quantiles(t, l, d.below(den+1), den)
			}
		}
	}
}

// P16.2: shares whose places are whole, or have a rest of just a half, or lie next to one that does.
func TestPlacesOfAllKinds(t *testing.T) {
	d := dice(182)
	for n := 2; n < 40; n++ {
		l := d.list(n, d.finite)
		sorted := sortedBy(l)
		for i := range 2*n - 1 {
			num, den := i, 2*(n-1)
			sortedQuantiles(t, l, sorted, num, den)
			times := finest / den
			for _, by := range []int{-1, 0, 1} {
				if k := num*times + by; k >= 0 && k <= den*times {
					sortedQuantiles(t, l, sorted, k, den*times)
				}
			}
		}
	}
}

// P16.2: on the line between two that are few steps apart: just in the middle of two neighbours, on a number, and right beside.
func TestMiddlesOnTheLine(t *testing.T) {
	d := dice(183)
	for range 1500 {
		x := d.finite()
		steps := 1 + d.below(9)
		y := math.Float64frombits(hex(x) + uint64(steps))
		if y-y != 0 {
			continue
		}
		den := 2 * steps * (finest / 2 / steps)
		num := den / (2 * steps) * d.below(2*steps+1)
		for _, by := range []int{-1, 0, 1} {
			if k := num + by; k >= 0 && k <= den {
				quantiles(t, nums(y, x), k, den)
			}
		}
		quantiles(t, nums(x, y), d.below(2*steps+1), 2*steps)
	}
}

// P16.2: on the line between two of other sizes and signs, where it crosses nought, and close to where it does.
func TestAcrossNought(t *testing.T) {
	d := dice(184)
	for range 1500 {
		a, b := 1+d.below(1<<15), 1+d.below(1<<15)
		size := d.sized(-1074, 1000)
		// From -a to b of one size nought lies at a by a + b, if nothing is lost.
		unit := math.Ldexp(1, math.Ilogb(size))
		l := nums(float64(b)*unit, -float64(a)*unit)
		for _, by := range []int{-1, 0, 1} {
			quantiles(t, l, a+by, a+b)
			quantiles(t, l, 2*a+by, 2*(a+b))
		}
		quantiles(t, nums(d.sized(-1074, -1070), d.sized(-1074, -1060)), a, a+b)
		quantiles(t, nums(d.sized(1020, 1023), d.sized(1020, 1023)), a, a+b)
		quantiles(t, nums(d.sized(1020, 1023), d.sized(-1074, -1000)), a, a+b)
	}
}

// P16.2: lists of MaxList numbers, and of one less, at places of all kinds.
func TestLongLists(t *testing.T) {
	d := dice(185)
	for _, n := range []int{1000, longest - 1, longest} {
		for _, l := range long(186, n) {
			sorted := sortedBy(l)
			check := func(num, den int) {
				t.Helper()
				rule, mode := d.below(5), d.below(5)
				x, e := Quantile(l, num, den, rule, mode)
				answers(t, "a long list", x, e, at(sorted, num, den)[rule][mode], 0)
			}
			for _, den := range dens() {
				check(0, den)
				check(den, den)
				check(den-1, den)
				check(d.below(den+1), den)
			}
			check(d.below(n), n-1)
			check(d.below(2*n), 2*n)
		}
	}
}
