package quant

import (
	"math/big"
	"slices"
	"testing"

	"steelyard/api"
	"steelyard/rank"
)

// told is a share's answer, which must not be refused.
func told(t *testing.T, l []float64, num, den, rule, mode int) float64 {
	t.Helper()
	x, e := Quantile(l, num, den, rule, mode)
	if e != api.OK {
		t.Fatalf("of %d numbers, %d by %d, rule %d, mode %d: error %d", len(l), num, den, rule, mode, e)
	}
	return x
}

// P16.5: in whatever order a list stands, all answers are the same.
func TestOrderIsNotSeen(t *testing.T) {
	d := dice(194)
	check := func(l []float64, rules int) {
		other := d.shuffled(l)
		num, den := d.share()
		parts, mode := 1+d.below(20), d.below(5)
		for rule := range rules {
			x := told(t, l, num, den, rule, mode)
			answers(t, "Quantile in another order", told(t, other, num, den, rule, mode), api.OK, x, api.OK)
			a, e := Several(l, parts, rule, mode)
			b, f := Several(other, parts, rule, mode)
			lists(t, "Several in another order", b, a)
			if e != api.OK || f != api.OK {
				t.Errorf("Several: errors %d, %d", e, f)
			}
		}
		x := d.of(l)
		n, m, e := Share(l, x)
		k, o, f := Share(other, x)
		shares(t, "Share in another order", k, o, f, n, m, e)
	}
	many(195, func(l []float64) { check(l, 5) })
	for _, l := range long(196, longest) {
		check(l, 1)
	}
}

// P16.5: at num 0 the least one is told, at num den the greatest one.
func TestEnds(t *testing.T) {
	d := dice(197)
	many(198, func(l []float64) {
		least, most := slices.MinFunc(l, byKey), slices.MaxFunc(l, byKey)
		_, den := d.share()
		for rule := range 5 {
			for mode := range 5 {
				answers(t, "at num 0", told(t, l, 0, den, rule, mode), api.OK, least, api.OK)
				answers(t, "at num den", told(t, l, den, den, rule, mode), api.OK, most, api.OK)
			}
		}
	})
}

// P16.6: of two shares the greater one's answer is not below the lesser one's; AtLow's is not above any other rule's, AtHigh's not below.
func TestAnswersRise(t *testing.T) {
	d := dice(199)
	many(200, func(l []float64) {
		a, b := d.share()
		c, e := d.share()
		if a*e > c*b {
			a, b, c, e = c, e, a, b
		}
		for mode := range 5 {
			var by [5]float64
			for rule := range by {
				by[rule] = told(t, l, a, b, rule, mode)
				if y := told(t, l, c, e, rule, mode); by[rule] > y {
					t.Errorf("of %x, rule %d, mode %d: %x at %d by %d, %x at %d by %d", brief(l), rule, mode, by[rule], a, b, y, c, e)
				}
			}
			for rule, x := range by {
				if x < by[api.AtLow] || x > by[api.AtHigh] {
					t.Errorf("of %x, %d by %d, rule %d, mode %d: %x, AtLow %x, AtHigh %x", brief(l), a, b, rule, mode, x, by[api.AtLow], by[api.AtHigh])
				}
			}
		}
		parts, rule, mode := 1+d.below(50), d.below(5), d.below(5)
		if all, e := Several(l, parts, rule, mode); e != api.OK || !slices.IsSorted(all) {
			t.Errorf("of %x, %d parts, rule %d, mode %d: %x, error %d", brief(l), parts, rule, mode, brief(all), e)
		}
	})
}

// P16.7: more are not above AtLow's answer than the place says; of those below AtHigh's answer there are not more than the place, rounded up.
func TestSharesOfAnswers(t *testing.T) {
	d := dice(201)
	many(202, func(l []float64) {
		for range 3 {
			num, den := d.share()
			mode := d.below(5)
			place := big.NewRat(int64(len(l)-1), int64(den))
			place.Mul(place, big.NewRat(int64(num), 1))
			c, n, e := Share(l, told(t, l, num, den, api.AtLow, mode))
			if e != api.OK || n != len(l) || big.NewRat(int64(c), 1).Cmp(place) <= 0 {
				t.Errorf("of %x, %d by %d: Share of AtLow's answer is %d by %d, error %d; the place %v", brief(l), num, den, c, n, e, place)
			}
			high, below := told(t, l, num, den, api.AtHigh, mode), 0
			for _, x := range l {
				if x < high {
					below++
				}
			}
			up := new(big.Int).Add(place.Num(), place.Denom())
			up.Sub(up, big.NewInt(1)).Div(up, place.Denom())
			if big.NewInt(int64(below)).Cmp(up) > 0 {
				t.Errorf("of %x, %d by %d: %d are below AtHigh's answer; the place %v", brief(l), num, den, below, place)
			}
		}
	})
}

// P16.8: at the half, AtMid is the Median, by value.
func TestHalfIsMedian(t *testing.T) {
	check := func(l []float64) {
		for mode := range 5 {
			median, e := rank.Median(l, mode)
			if x := told(t, l, 1, 2, api.AtMid, mode); e != api.OK || x != median {
				t.Errorf("of %x, mode %d: AtMid %x, Median %x, error %d", brief(l), mode, x, median, e)
			}
			if x, y := told(t, l, 1, 2, api.AtMid, mode), told(t, l, finest/2, finest, api.AtLine, mode); !sameBits(x, y) {
				t.Errorf("of %x, mode %d: at the half AtMid %x, AtLine %x", brief(l), mode, x, y)
			}
		}
	}
	many(203, check)
	d := dice(204)
	check(d.list(longest, d.finite))
	check(d.list(longest-1, d.near()))
}

// P16.2, P0.2: what is told by Up and Down are neighbours, or one number, and what is told by the others is one of them; with signs, mode and share turned, AtLine and AtMid have their signs turned, but for a nought that is just so.
func TestModesAndSigns(t *testing.T) {
	d := dice(205)
	for range 600 {
		l := d.list(2+d.below(4), d.throws()[d.below(5)])
		num, den := d.share()
		for _, rule := range []int{api.AtMid, api.AtLine} {
			var by [5]float64
			for mode := range by {
				by[mode] = told(t, l, num, den, rule, mode)
				y := told(t, turnedAll(l), den-num, den, rule, turnedMode(mode))
				if by[mode] != -y || by[mode] != 0 && !sameBits(by[mode], turned(y)) {
					t.Errorf("of %x, %d by %d, rule %d, mode %d: %x, turned %x", l, num, den, rule, mode, by[mode], y)
				}
			}
			down, up := by[api.Down], by[api.Up]
			if next := key(down) + 1; down != up && key(up) != next && !(down == 0 || up == 0) {
				t.Errorf("of %x, %d by %d, rule %d: Down %x, Up %x are no neighbours", l, num, den, rule, down, up)
			}
			for mode, x := range by {
				if x != down && x != up {
					t.Errorf("of %x, %d by %d, rule %d: Down %x, Up %x, mode %d %x", l, num, den, rule, down, up, mode, x)
				}
			}
		}
	}
}
