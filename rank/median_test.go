package rank

import (
	"fmt"
	"math"
	"slices"
	"testing"

	"steelyard/api"
)

// medians holds Median by every mode against the model.
func medians(t *testing.T, l []float64) {
	t.Helper()
	is, want := medianBy(l)
	for mode := range 5 {
		x, e := Median(l, mode)
		answers(t, fmt.Sprintf("Median of %d numbers, %x, mode %d", len(l), brief(l), mode), x, e, is[mode], want)
	}
}

// P15.4: by hand, by every mode, in either order of the two in the middle.
func TestMedianByHand(t *testing.T) {
	const next = 1 + 0x1p-52
	const after = 1 + 0x1p-51
	top := math.Nextafter(greatest, 0)
	for _, c := range []struct {
		name string
		l    []float64
		is   [5]float64
	}{
		{"one", nums(0.1), everyMode(0.1)},
		{"one, -0", nums(noughtBelow), everyMode(noughtBelow)},
		{"one, an infinity", nums(-inf), everyMode(-inf)},
		{"three", nums(5, -7, 0.1), everyMode(0.1)},
		{"three, -0 in the middle", nums(1, noughtBelow, -1), everyMode(noughtBelow)},
		{"three, -0 ahead of both +0", nums(0, 0, noughtBelow), everyMode(0)},
		{"three, an infinity in the middle", nums(inf, inf, 1), everyMode(inf)},
		{"three, one of two infinities apart in the middle", nums(-inf, 1, inf), everyMode(1)},
		{"five", nums(5, 1, 4, 2, 3), everyMode(3)},
		{"four", nums(9, 1, 3, 2), everyMode(2.5)},
		{"the same, -0", nums(noughtBelow, noughtBelow), everyMode(noughtBelow)},
		{"the same, -0, in the middle", nums(noughtBelow, 1, noughtBelow, -1), everyMode(noughtBelow)},
		{"the same, +0", nums(0, 0), everyMode(0)},
		{"both noughts", nums(0, noughtBelow), everyMode(0)},
		{"both noughts in the middle", nums(noughtBelow, noughtBelow, 0, 0), everyMode(0)},
		{"just nought", nums(-1, 1), everyMode(0)},
		{"just nought of the greatest", nums(greatest, -greatest), everyMode(0)},
		{"just nought of the least", nums(-least, least), everyMode(0)},
		{"the same, an infinity", nums(inf, inf), everyMode(inf)},
		{"the same, the other infinity", nums(-inf, -inf), everyMode(-inf)},
		{"an infinity above", nums(inf, -greatest), everyMode(inf)},
		{"an infinity below", nums(greatest, -inf), everyMode(-inf)},
		{"an infinity and -0", nums(-inf, noughtBelow), everyMode(-inf)},
		{"infinities outside", nums(inf, 3, -inf, 4), everyMode(3.5)},
		{"infinities, two of them in the middle", nums(inf, inf, inf, 1), everyMode(inf)},
		{"a half between neighbours, the lower even", nums(1, next), byModes(1, next, 1, next)},
		{"a half between neighbours, the higher even", nums(next, after), byModes(after, after, next, after)},
		{"a half between neighbours below nought, even nearer", nums(-1, -next), byModes(-1, -next, -1, -next)},
		{"a half between neighbours below nought, even further", nums(-next, -after), byModes(-after, -after, -next, -after)},
		{"a half between others, the higher even", nums(1, 1+0x3p-52), byModes(after, after, next, after)},
		{"a step above", nums(2, 0x1p-51), everyMode(next)},
		{"half a step above", nums(2, 0x1p-52), byModes(1, next, 1, next)},
		{"a quarter of a step above", nums(2, 0x1p-53), byModes(1, 1, 1, next)},
		{"three quarters of a step above", nums(2, 0x3p-53), byModes(next, next, 1, next)},
		{"three quarters of a step below, below nought", nums(-2, -0x3p-53), byModes(-next, -next, -1, -next)},
		{"just above a number", nums(2, least), byModes(1, 1, 1, next)},
		{"just below a number", nums(2, -least), byModes(1, 1, 1-0x1p-53, 1)},
		{"just above a number below nought", nums(-2, least), byModes(-1, -1, -1+0x1p-53, -1)},
		{"just below a number below nought", nums(-2, -least), byModes(-1, -1, -1, -next)},
		{"a sum beyond the greatest", nums(greatest, greatest), everyMode(greatest)},
		{"a sum beyond the greatest, of neighbours", nums(greatest, top), byModes(top, greatest, top, greatest)},
		{"a sum beyond the greatest, below nought", nums(-greatest, -top), byModes(-top, -greatest, -top, -greatest)},
		{"a sum beyond the greatest, half a step below a number", nums(greatest, 0x1p1023), byModes(0x1.8p1023, 0x1.8p1023, 0x1.7ffffffffffffp1023, 0x1.8p1023)},
		{"1e308, 1.5e308", nums(1.5e308, 1e308), everyMode(1.25e308)},
		{"half the least", nums(0, least), byModes(0, least, 0, least)},
		{"half the least, -0", nums(noughtBelow, least), byModes(0, least, 0, least)},
		{"half the least, below nought", nums(0, -least), byModes(noughtBelow, -least, noughtBelow, -least)},
		{"half the least, out of two apart", nums(2*least, -least), byModes(0, least, 0, least)},
		{"one and a half of the least", nums(least, 2*least), byModes(2*least, 2*least, least, 2*least)},
		{"two and a half of the least", nums(3*least, 2*least), byModes(2*least, 3*least, 2*least, 3*least)},
		{"the middle of the least normal one and its neighbour", nums(normal, normal-least), byModes(normal, normal, normal-least, normal)},
	} {
		for mode := range 5 {
			x, e := Median(c.l, mode)
			answers(t, fmt.Sprintf("%s, mode %d", c.name, mode), x, e, c.is[mode], api.OK)
			back := slices.Clone(c.l)
			slices.Reverse(back)
			x, e = Median(back, mode)
			answers(t, fmt.Sprintf("%s, from behind, mode %d", c.name, mode), x, e, c.is[mode], api.OK)
		}
	}
}

// P15.4: every two of the edges, of infinities and of a NaN, alone and with others outside.
func TestMedianOfTwo(t *testing.T) {
	all := append(edges(), inf, -inf, math.Float64frombits(0xFFF0000000000001))
	for _, x := range all {
		for _, y := range all {
			medians(t, nums(x, y))
			medians(t, nums(inf, x, y, -inf))
			medians(t, nums(x, x, y, y))
			medians(t, nums(x, y, y))
		}
	}
}

func TestMedianOfMany(t *testing.T) {
	many(158, func(l []float64) { medians(t, l) })
	eachList(4, few(), func(l []float64) { medians(t, l) })
}

// P15.4: two in the middle that are neighbours, or nearly so, of all sizes: halves that lie just in the middle of two, or on a number.
func TestMedianOfNeighbours(t *testing.T) {
	d := dice(159)
	for range 4000 {
		x := d.finite()
		for step := range uint64(4) {
			y := math.Float64frombits(hex(x) + step)
			if y-y != 0 {
				continue
			}
			medians(t, nums(y, x))
			medians(t, nums(x, y, inf, -inf))
		}
	}
	for range 4000 {
		x := d.sized(1020, 1023)
		medians(t, nums(x, d.sized(1022, 1023)))
		medians(t, nums(x, turned(d.sized(960, 980))))
		medians(t, nums(d.sized(-1074, -1070), d.sized(-1074, -1020)))
		z := d.sized(-1000, 1000)
		medians(t, nums(z, math.Ldexp(z, -52-d.below(4))))
		medians(t, nums(z, math.Ldexp(d.sized(0, 0), math.Ilogb(z)-51-d.below(5))))
	}
}

// P15.4: lists of MaxList numbers, and of one less.
func TestMedianOfLongLists(t *testing.T) {
	for _, n := range []int{999, 1000, longest - 1, longest} {
		for _, l := range long(160, n) {
			medians(t, l)
			var without []float64
			for _, x := range l {
				if x == x {
					without = append(without, x)
				}
			}
			medians(t, without)
		}
	}
}
