package quant

import (
	"fmt"
	"math"
	"testing"

	"steelyard/api"
)

// P16.4: by hand: below all, above all, one of them, between two, both noughts, both infinities.
func TestShareByHand(t *testing.T) {
	for _, c := range []struct {
		name string
		l    []float64
		x    float64
		num  int
	}{
		{"below all", sample(), 9, 0},
		{"just below all", sample(), math.Nextafter(10, 0), 0},
		{"the least of them", sample(), 10, 1},
		{"one of them", sample(), 30, 3},
		{"between two", sample(), 25, 2},
		{"just above one", sample(), math.Nextafter(20, 30), 2},
		{"the greatest of them", sample(), 40, 4},
		{"above all", sample(), 41, 4},
		{"+Inf", sample(), inf, 4},
		{"-Inf", sample(), -inf, 0},
		{"one of several that are alike", nums(2, 1, 2, 3, 2), 2, 4},
		{"all the same, that one", often(9, 0.1), 0.1, 9},
		{"all the same, just below", often(9, 0.1), math.Nextafter(0.1, 0), 0},
		{"-0; -0", nums(noughtBelow, 1), noughtBelow, 1},
		{"+0; -0", nums(0, 1), noughtBelow, 1},
		{"+0; +0", nums(0, 1), 0, 1},
		{"both noughts; -0", nums(0, noughtBelow, 1, -1), noughtBelow, 3},
		{"both noughts; +0", nums(0, noughtBelow, 1, -1), 0, 3},
		{"both noughts; the least", nums(0, noughtBelow, 1, -1), least, 3},
		{"both noughts; less the least", nums(0, noughtBelow, 1, -1), -least, 1},
		{"the greatest; +Inf", nums(greatest, -greatest), inf, 2},
		{"the greatest; itself", nums(greatest, -greatest), greatest, 2},
		{"less the greatest; itself", nums(greatest, -greatest), -greatest, 1},
		{"less the greatest; -Inf", nums(greatest, -greatest), -inf, 0},
		{"one; itself", nums(-3), -3, 1},
		{"one; below it", nums(-3), -4, 0},
		{"as many as may be", often(longest, 1), 1, longest},
		{"as many as may be, none", often(longest, 1), 0, 0},
	} {
		num, den, e := Share(c.l, c.x)
		shares(t, c.name, num, den, e, c.num, len(c.l), api.OK)
	}
}

// P16.4: many lists, and of each its own numbers, their neighbours, and others.
func TestShareOfManyLists(t *testing.T) {
	d := dice(191)
	many(192, func(l []float64) {
		some := []float64{0, noughtBelow, inf, -inf, d.finite(), d.of(edges())}
		for range 4 {
			x := d.of(l)
			some = append(some, x, turned(x), math.Nextafter(x, inf), math.Nextafter(x, -inf))
		}
		for _, x := range some {
			num, den, e := Share(l, x)
			shares(t, fmt.Sprintf("of %x; %x", brief(l), x), num, den, e, shareBy(l, x), len(l), api.OK)
		}
	})
	for _, l := range long(193, longest) {
		x := d.of(l)
		num, den, e := Share(l, x)
		shares(t, fmt.Sprintf("of %d numbers; %x", len(l), x), num, den, e, shareBy(l, x), len(l), api.OK)
	}
}
