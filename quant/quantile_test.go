package quant

import (
	"fmt"
	"testing"

	"steelyard/api"
)

// quantiles holds a share's answers, by every rule and every mode, against those of the exact value.
func quantiles(t *testing.T, l []float64, num, den int) {
	t.Helper()
	sortedQuantiles(t, l, sortedBy(l), num, den)
}

// sortedQuantiles is the same for a list that was sorted before.
func sortedQuantiles(t *testing.T, l, sorted []float64, num, den int) {
	t.Helper()
	for rule, modes := range at(sorted, num, den) {
		for mode, is := range modes {
			x, e := Quantile(l, num, den, rule, mode)
			if !sameBits(x, is) || e != api.OK {
				t.Errorf("of %d numbers, %x, %d by %d, rule %d, mode %d: %x (bits %x), error %d; want %x (bits %x)", len(l), brief(l), num, den, rule, mode, x, hex(x), e, is, hex(is))
			}
		}
	}
}

// P16.2: at a whole place stands the number as it is, its sign too, whatever rule and mode are.
func TestWholePlaces(t *testing.T) {
	for _, c := range []struct {
		name     string
		l        []float64
		num, den int
		is       float64
	}{
		{"one, at its beginning", nums(7), 0, 1, 7},
		{"one, at its end", nums(7), 1, 1, 7},
		{"one, anywhere", nums(7), 1, 3, 7},
		{"one, by the greatest den", nums(7), finest - 1, finest, 7},
		{"one, -0", nums(noughtBelow), 1, 2, noughtBelow},
		{"one, the greatest", nums(greatest), 1, 2, greatest},
		{"one, less the least", nums(-least), 1, 2, -least},
		{"two, the lesser", nums(2, 1), 0, 5, 1},
		{"two, the greater", nums(2, 1), 5, 5, 2},
		{"three, the middle", nums(3, 1, 2), 1, 2, 2},
		{"three, the middle, by the greatest den", nums(3, 1, 2), finest / 2, finest, 2},
		{"five, the fourth", nums(5, 4, 3, 2, 1), 3, 4, 4},
		{"five, the fourth, not in its lowest numbers", nums(5, 4, 3, 2, 1), 51, 68, 4},
		{"-0 ahead of +0", nums(0, noughtBelow), 0, 1, noughtBelow},
		{"+0 behind -0", nums(0, noughtBelow), 1, 1, 0},
		{"-0 among noughts", nums(0, noughtBelow, 0, noughtBelow, 0), 1, 4, noughtBelow},
		{"+0 among noughts", nums(0, noughtBelow, 0, noughtBelow, 0), 2, 4, 0},
		{"-0 between others", nums(1, noughtBelow, -1), 1, 2, noughtBelow},
		{"+0 between others", nums(1, 0, -1), 1, 2, 0},
		{"0 by 1 of many", nums(4, -3, 8, 1), 0, 1, -3},
		{"0 by the greatest den", nums(4, -3, 8, 1), 0, finest, -3},
		{"the greatest den by itself", nums(4, -3, 8, 1), finest, finest, 8},
		{"the greatest", nums(greatest, -greatest, 0), 1, 1, greatest},
		{"less the greatest", nums(greatest, -greatest, 0), 0, 1, -greatest},
	} {
		for mode := range 5 {
			byRules(t, c.name, c.l, c.num, c.den, mode, everyMode(c.is))
		}
	}
}

// P16.2: AtNear, at a rest just below, at and just above a half, beside even and odd places.
func TestNearPlaces(t *testing.T) {
	five := nums(50, 10, 40, 20, 30)
	for _, c := range []struct {
		num, den int
		is       float64
	}{
		{1, 8, 10}, {3, 8, 30}, {5, 8, 30}, {7, 8, 50},
		{999, 8000, 10}, {1001, 8000, 20}, {2999, 8000, 20}, {3001, 8000, 30},
		{4999, 8000, 30}, {5001, 8000, 40}, {6999, 8000, 40}, {7001, 8000, 50},
		{1, 7, 20}, {2, 7, 20}, {3, 7, 30}, {4, 7, 30}, {5, 7, 40}, {6, 7, 40},
		{finest / 8, finest, 10}, {finest/8 - 1, finest, 10}, {finest/8 + 1, finest, 20},
		{finest / 8 * 3, finest, 30}, {finest/8*3 - 1, finest, 20}, {finest/8*3 + 1, finest, 30},
		{finest / 8 * 5, finest, 30}, {finest/8*5 - 1, finest, 30}, {finest/8*5 + 1, finest, 40},
		{finest / 8 * 7, finest, 50}, {finest/8*7 - 1, finest, 40}, {finest/8*7 + 1, finest, 50},
		{1, finest, 10}, {finest - 1, finest, 50},
	} {
		for mode := range 5 {
			x, e := Quantile(five, c.num, c.den, api.AtNear, mode)
			answers(t, fmt.Sprintf("%d by %d", c.num, c.den), x, e, c.is, api.OK)
		}
	}
}

// P16.2: AtNear tells one of the two as it is, its sign too.
func TestNearKeepsSigns(t *testing.T) {
	noughts := nums(0, noughtBelow, 0, noughtBelow)
	for _, c := range []struct {
		num, den int
		is       float64
	}{
		{1, 6, noughtBelow}, {1, 2, 0}, {49, 100, noughtBelow}, {51, 100, 0}, {5, 6, 0},
	} {
		for mode := range 5 {
			x, e := Quantile(noughts, c.num, c.den, api.AtNear, mode)
			answers(t, fmt.Sprintf("%d by %d", c.num, c.den), x, e, c.is, api.OK)
		}
	}
}

// P16.2: AtLow and AtHigh, by the slightest rest on either side.
func TestLowAndHigh(t *testing.T) {
	for mode := range 5 {
		byRules(t, "just behind the first", nums(3, 1, 2), 1, finest, mode, [5]float64{1, 2, 1, 1.5, 1 + 0x1p-30})
		byRules(t, "just ahead of the last", nums(3, 1, 2), finest-1, finest, mode, [5]float64{2, 3, 3, 2.5, 3 - 0x1p-30})
		byRules(t, "just ahead of the middle", nums(3, 1, 2), finest/2-1, finest, mode, [5]float64{1, 2, 2, 1.5, 2 - 0x1p-30})
		byRules(t, "just behind the middle", nums(3, 1, 2), finest/2+1, finest, mode, [5]float64{2, 3, 2, 2.5, 2 + 0x1p-30})
		byRules(t, "the same twice", nums(5, 5), 1, 3, mode, everyMode(5))
	}
}

// P16.2: AtMid and AtLine by hand, by each mode.
func TestBetweenByHand(t *testing.T) {
	down := [5]float64{api.Down: noughtBelow}
	under := greatest - 0x1p971
	for _, c := range []struct {
		name     string
		l        []float64
		num, den int
		rule     int
		is       [5]float64
	}{
		{"a third", nums(0, 1), 1, 3, api.AtLine, byModes(0x1.5555555555555p-2, 0x1.5555555555555p-2, 0x1.5555555555555p-2, 0x1.5555555555556p-2)},
		{"two thirds", nums(0, 1), 2, 3, api.AtLine, byModes(0x1.5555555555555p-1, 0x1.5555555555555p-1, 0x1.5555555555555p-1, 0x1.5555555555556p-1)},
		{"less a third", nums(0, -1), 2, 3, api.AtLine, byModes(-0x1.5555555555555p-2, -0x1.5555555555555p-2, -0x1.5555555555555p-2, -0x1.5555555555556p-2)},
		{"a fifth from -1 to 2", nums(2, -1), 1, 5, api.AtLine, byModes(-0x1.999999999999ap-2, -0x1.999999999999ap-2, -0x1.9999999999999p-2, -0x1.999999999999ap-2)},
		{"the middle of 1 and what follows", nums(1, 1+0x1p-52), 1, 2, api.AtLine, byModes(1, 1+0x1p-52, 1, 1+0x1p-52)},
		{"the middle of 1 and what follows, AtMid", nums(1, 1+0x1p-52), 1, 2, api.AtMid, byModes(1, 1+0x1p-52, 1, 1+0x1p-52)},
		{"a third between these", nums(1, 1+0x1p-52), 1, 3, api.AtLine, byModes(1, 1, 1, 1+0x1p-52)},
		{"a third between these, AtMid", nums(1, 1+0x1p-52), 1, 3, api.AtMid, byModes(1, 1+0x1p-52, 1, 1+0x1p-52)},
		{"two thirds between these", nums(1, 1+0x1p-52), 2, 3, api.AtLine, byModes(1+0x1p-52, 1+0x1p-52, 1, 1+0x1p-52)},
		{"the next two", nums(1+0x1p-51, 1+0x1p-52), 1, 2, api.AtLine, byModes(1+0x1p-51, 1+0x1p-51, 1+0x1p-52, 1+0x1p-51)},
		{"0 and the least, a half", nums(0, least), 1, 2, api.AtLine, byModes(0, least, 0, least)},
		{"0 and the least, a third", nums(0, least), 1, 3, api.AtLine, byModes(0, 0, 0, least)},
		{"0 and the least, two thirds", nums(0, least), 2, 3, api.AtLine, byModes(least, least, 0, least)},
		{"0 and the least, the slightest rest", nums(0, least), 1, finest, api.AtLine, byModes(0, 0, 0, least)},
		{"-0 and less the least, a half", nums(noughtBelow, -least), 1, 2, api.AtLine, byModes(noughtBelow, -least, noughtBelow, -least)},
		{"-0 and less the least, two thirds", nums(noughtBelow, -least), 2, 3, api.AtLine, byModes(noughtBelow, noughtBelow, noughtBelow, -least)},
		{"-0 and less the least, AtMid", nums(noughtBelow, -least), 2, 3, api.AtMid, byModes(noughtBelow, -least, noughtBelow, -least)},
		{"the least on both sides, a quarter", nums(-least, least), 1, 4, api.AtLine, byModes(noughtBelow, -least, noughtBelow, -least)},
		{"the least on both sides, a half", nums(-least, least), 1, 2, api.AtLine, down},
		{"the least on both sides, three quarters", nums(-least, least), 3, 4, api.AtLine, byModes(0, least, 0, least)},
		{"both noughts, AtLine", nums(0, noughtBelow), 1, 3, api.AtLine, down},
		{"both noughts, AtMid", nums(0, noughtBelow), 1, 3, api.AtMid, down},
		{"-0 twice, AtLine", nums(noughtBelow, noughtBelow), 1, 3, api.AtLine, everyMode(noughtBelow)},
		{"-0 twice, AtMid", nums(noughtBelow, noughtBelow), 1, 3, api.AtMid, everyMode(noughtBelow)},
		{"+0 twice, AtLine", nums(0, 0), 1, 3, api.AtLine, everyMode(0)},
		{"+0 twice, AtMid", nums(0, 0), 1, 3, api.AtMid, everyMode(0)},
		{"-1 and 2, a third", nums(2, -1), 1, 3, api.AtLine, down},
		{"-1 and 2, a third, AtMid", nums(2, -1), 1, 3, api.AtMid, everyMode(0.5)},
		{"-2 and 1, two thirds", nums(-2, 1), 2, 3, api.AtLine, down},
		{"the greatest on both sides, a half", nums(greatest, -greatest), 1, 2, api.AtLine, down},
		{"the greatest on both sides, AtMid", nums(greatest, -greatest), 1, 3, api.AtMid, down},
		{"the greatest on both sides, three quarters", nums(greatest, -greatest), 3, 4, api.AtLine, everyMode(greatest / 2)},
		{"the greatest on both sides, a quarter", nums(greatest, -greatest), 1, 4, api.AtLine, everyMode(-greatest / 2)},
		{"the greatest twice", nums(greatest, greatest), 1, 3, api.AtLine, everyMode(greatest)},
		{"the greatest twice, AtMid", nums(greatest, greatest), 1, 3, api.AtMid, everyMode(greatest)},
		{"less the greatest twice", nums(-greatest, -greatest), finest - 1, finest, api.AtLine, everyMode(-greatest)},
		{"the greatest and the one below, a half", nums(greatest, under), 1, 2, api.AtLine, byModes(under, greatest, under, greatest)},
		{"the greatest and the one below, a third", nums(greatest, under), 1, 3, api.AtLine, byModes(under, under, under, greatest)},
		{"the greatest and the one below, two thirds", nums(greatest, under), 2, 3, api.AtLine, byModes(greatest, greatest, under, greatest)},
		{"less these, two thirds", nums(-greatest, -under), 2, 3, api.AtLine, byModes(-under, -under, -under, -greatest)},
		{"the greatest and 0, just below it", nums(greatest, 0), finest - 1, finest, api.AtLine, byModes(0x1.fffffffbfffffp1023, 0x1.fffffffbfffffp1023, 0x1.fffffffbfffffp1023, 0x1.fffffffc00000p1023)},
		{"1 and the least, a half", nums(1, least), 1, 2, api.AtLine, byModes(0.5, 0.5, 0.5, 0.5+0x1p-53)},
		{"1 and less the least, a half", nums(1, -least), 1, 2, api.AtMid, byModes(0.5, 0.5, 0.5-0x1p-54, 0.5)},
	} {
		for mode, is := range c.is {
			x, e := Quantile(c.l, c.num, c.den, c.rule, mode)
			answers(t, fmt.Sprintf("%s, mode %d", c.name, mode), x, e, is, api.OK)
		}
	}
}
