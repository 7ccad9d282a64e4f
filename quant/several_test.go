package quant

import (
	"testing"

	"steelyard/api"
)

// severals holds Several against the exact values, by every rule and every mode.
func severals(t *testing.T, l []float64, parts int) {
	t.Helper()
	sorted := sortedBy(l)
	all := make([][5][5]float64, parts+1)
	for k := range all {
		all[k] = at(sorted, k, parts)
	}
	for rule := range 5 {
		for mode := range 5 {
			got, e := Several(l, parts, rule, mode)
			if e != api.OK || len(got) != parts+1 {
				t.Fatalf("of %x, %d parts, rule %d, mode %d: %d numbers, error %d", brief(l), parts, rule, mode, len(got), e)
			}
			for k, x := range got {
				if is := all[k][rule][mode]; !sameBits(x, is) {
					t.Errorf("of %x, %d of %d parts, rule %d, mode %d: %x; want %x", brief(l), k, parts, rule, mode, x, is)
				}
			}
		}
	}
}

// P16.3: by hand.
func TestSeveralByHand(t *testing.T) {
	for _, c := range []struct {
		name        string
		l           []float64
		parts, rule int
		is          []float64
	}{
		{"1 part", sample(), 1, api.AtLow, nums(10, 40)},
		{"1 part of one", nums(7), 1, api.AtLine, nums(7, 7)},
		{"3 parts of one", nums(noughtBelow), 3, api.AtMid, often(4, noughtBelow)},
		{"3 parts", sample(), 3, api.AtLine, nums(10, 20, 30, 40)},
		{"4 parts, AtLow", sample(), 4, api.AtLow, nums(10, 10, 20, 30, 40)},
		{"4 parts, AtHigh", sample(), 4, api.AtHigh, nums(10, 20, 30, 40, 40)},
		{"4 parts, AtNear", sample(), 4, api.AtNear, nums(10, 20, 30, 30, 40)},
		{"4 parts, AtMid", sample(), 4, api.AtMid, nums(10, 15, 25, 35, 40)},
		{"4 parts, AtLine", sample(), 4, api.AtLine, nums(10, 17.5, 25, 32.5, 40)},
		{"6 parts, AtNear", sample(), 6, api.AtNear, nums(10, 10, 20, 30, 30, 30, 40)},
	} {
		for mode := range 5 {
			got, e := Several(c.l, c.parts, c.rule, mode)
			lists(t, c.name, got, c.is)
			if e != api.OK {
				t.Errorf("%s: error %d", c.name, e)
			}
		}
	}
}

// P16.3: parts of 1, of few, of many, by every rule and every mode.
func TestSeveralOfManyLists(t *testing.T) {
	d := dice(187)
	for n := 1; n < 24; n++ {
		for _, throw := range d.throws() {
			l := d.list(n, throw)
			severals(t, l, 1)
			severals(t, l, 2)
			severals(t, l, 3+d.below(30))
		}
	}
	severals(t, d.list(40, d.finite), 700)
}

// P16.3: as many parts as may be, and long lists: what is told at each part is what Quantile tells there.
func TestSeveralOfManyParts(t *testing.T) {
	d := dice(188)
	for i, l := range [][]float64{sample(), nums(5), d.list(1000, d.finite), d.list(longest, d.finite), d.list(longest-1, d.crowd())} {
		sorted := sortedBy(l)
		for _, parts := range []int{999, longest - 1, longest} {
			rule, mode := (i+parts)%5, d.below(5)
			got, e := Several(l, parts, rule, mode)
			if e != api.OK || len(got) != parts+1 {
				t.Fatalf("%d numbers, %d parts: %d numbers, error %d", len(l), parts, len(got), e)
			}
			for range 300 {
				k := d.below(parts + 1)
				answers(t, "a part of many", got[k], e, at(sorted, k, parts)[rule][mode], api.OK)
			}
			for _, k := range []int{0, parts, d.below(parts + 1)} {
				x, e := Quantile(l, k, parts, rule, mode)
				answers(t, "Quantile and Several", got[k], api.OK, x, e)
			}
		}
	}
}

// P16.3: it tells what Quantile tells, by every rule and every mode.
func TestSeveralIsQuantile(t *testing.T) {
	d := dice(189)
	many(190, func(l []float64) {
		parts := 1 + d.below(12)
		for rule := range 5 {
			mode := d.below(5)
			got, e := Several(l, parts, rule, mode)
			if e != api.OK || len(got) != parts+1 {
				t.Fatalf("of %x, %d parts: %d numbers, error %d", brief(l), parts, len(got), e)
			}
			for k, y := range got {
				x, e := Quantile(l, k, parts, rule, mode)
				answers(t, "Quantile and Several", y, api.OK, x, e)
			}
		}
	})
}
