package root

import (
	"math/big"
	"testing"

	"steelyard/api"
)

func cmpIs(t *testing.T, what string, a, b api.Ratio, want int) {
	t.Helper()
	if got, e := Cmp(a, b); got != want || e != api.OK {
		t.Errorf("%s: Cmp of %s and %s: %d, error %d; want %d", what, told(a), told(b), got, e, want)
	}
	if got, e := Cmp(b, a); got != -want || e != api.OK {
		t.Errorf("%s: Cmp of %s and %s: %d, error %d; want %d", what, told(b), told(a), got, e, -want)
	}
}

// cmpAs holds Cmp, both ways, against exact products.
func cmpAs(t *testing.T, a, b api.Ratio) {
	t.Helper()
	cmpIs(t, "as products", a, b, stands(product(valueOf(a.Num), valueOf(b.Den)), product(valueOf(b.Num), valueOf(a.Den))))
}

// P11.3: small ones, each with each, of every sign, in their form and not, and others.
func TestCmp(t *testing.T) {
	l := someRatios()
	for _, a := range l {
		cmpIs(t, "itself", a, a, 0)
		for _, b := range l {
			cmpAs(t, a, b)
		}
	}
	d := dice(116)
	for range 3000 {
		cmpAs(t, d.ratio(5, 100), d.ratio(5, 100))
	}
}

// P11.3: one value in other words, and what lies just beside it.
func TestCmpOfNearOnes(t *testing.T) {
	d := dice(117)
	for i := range 1500 {
		a := d.ratio(5, 100)
		k := whole(append(d.nat(d.below(4)), uint32(1+d.below(9))))
		up := d.below(200) - 100
		b := api.Ratio{
			Num: api.Dyad{Neg: a.Num.Neg, Mag: append(scaled(a.Num.Mag, k, 0), 0), Exp: a.Num.Exp + up},
			Den: api.Dyad{Mag: append(scaled(a.Den.Mag, k, 0), 0), Exp: a.Den.Exp + up},
		}
		cmpIs(t, "in other words", a, b, 0)
		side := 1
		if i%2 == 1 {
			b.Num.Mag = scaled(a.Num.Mag, k, 1)
		} else {
			b.Den.Mag, side = scaled(a.Den.Mag, k, 1), -1
		}
		if whole(a.Num.Mag).Sign() == 0 && side < 0 {
			side = 0
		}
		if a.Num.Neg {
			side = -side
		}
		cmpIs(t, "just beside", b, a, side)
	}
}

// By hand: signs, noughts, what lies far apart, and ratios whose products chapter 3 refuses.
func TestCmpByHand(t *testing.T) {
	top, bottom := two(api.MaxExp), two(-api.MaxExp)
	most, least := api.Ratio{Num: top, Den: bottom}, api.Ratio{Num: bottom, Den: top}
	down := func(r api.Ratio) api.Ratio { return api.Ratio{Num: less(r.Num), Den: r.Den} }
	for _, c := range []struct {
		name string
		a, b api.Ratio
		want int
	}{
		{"noughts of unlike Dens", by(0, 5), by(0, 3), 0},
		{"noughts in other words", by(0, 5), api.Ratio{Num: dy(true, 77, 0, 0), Den: top}, 0},
		{"nought and more", by(0, 5), least, -1},
		{"nought and less", by(0, 5), down(least), 1},
		{"either side", by(-1, 2), by(1, 3), -1},
		{"below", by(-1, 2), by(-1, 3), -1},
		{"above", by(1, 2), by(1, 3), 1},
		{"a Den that is greater", by(1, 3), by(1, 4), 1},
		{"far apart", most, least, 1},
		{"far apart, below nought", down(most), down(least), -1},
		{"far apart, on either side", down(most), most, -1},
		{"the least of either sign", down(least), least, -1},
		{"the same, far out", most, api.Ratio{Num: dy(false, api.MaxExp-1, 2), Den: dy(false, -api.MaxExp-1, 2)}, 0},
		{"far out, by a third", most, api.Ratio{Num: dy(false, api.MaxExp, 3), Den: bottom}, -1},
		{"far out, by a third of Den", least, api.Ratio{Num: bottom, Den: dy(false, api.MaxExp, 3)}, 1},
		{"Exps that are refused when they are added", over(top), api.Ratio{Num: in(1), Den: bottom}, 0},
		{"Exps that are refused, and a little more", over(dy(false, api.MaxExp, 3)), api.Ratio{Num: dy(false, 0, full, 2), Den: dy(false, -api.MaxExp, full, 0, 1)}, 1},
	} {
		cmpIs(t, c.name, c.a, c.b, c.want)
	}
}

// P11.3: as many words as there may be: only the lowest bits of products tell, which chapter 3 would refuse.
func TestCmpOfLongOnes(t *testing.T) {
	n := func(off uint32) api.Dyad {
		m := ones(limit)
		m[0] -= off
		return api.Dyad{Mag: m}
	}
	// n (n - 4) is (n - 2)^2 less 4.
	cmpIs(t, "long", api.Ratio{Num: n(0), Den: n(2)}, api.Ratio{Num: n(2), Den: n(4)}, -1)
	cmpIs(t, "long, below nought", api.Ratio{Num: less(n(0)), Den: n(2)}, api.Ratio{Num: less(n(2)), Den: n(4)}, 1)
	cmpIs(t, "long and alike", api.Ratio{Num: n(2), Den: n(2)}, api.Ratio{Num: n(4), Den: n(4)}, 0)
	// 2^262144 - 1 is 2^131072 - 1 times 2^131072 + 1.
	factor, other := ones(limit/2), power(limit/2)
	other[0] = 1
	a := api.Ratio{Num: n(0), Den: api.Dyad{Mag: factor}}
	cmpIs(t, "a whole quotient", a, over(api.Dyad{Mag: other}), 0)
	other[0] = 3
	cmpIs(t, "a whole quotient, and a little more", a, over(api.Dyad{Mag: other}), -1)
	d := dice(118)
	for i := range 3 {
		cmpAs(t, api.Ratio{Num: api.Dyad{Mag: d.long(), Exp: api.MaxExp}, Den: api.Dyad{Mag: d.long()}}, api.Ratio{Num: api.Dyad{Mag: d.long(), Exp: api.MaxExp - i}, Den: api.Dyad{Mag: d.long()}})
	}
	// Far more words than there may be, though not in their form.
	wide := api.Ratio{Num: api.Dyad{Mag: shifted(n(0).Mag, 4000), Exp: -4000}, Den: api.Dyad{Mag: append(shifted(n(2).Mag, 33), 0, 0), Exp: -33}}
	cmpIs(t, "no forms", wide, api.Ratio{Num: n(0), Den: n(2)}, 0)
}

// Cmp stands as the order of what is rounded does: what is not above is not rounded to what is above.
func TestCmpAndRounding(t *testing.T) {
	d := dice(119)
	for range 1500 {
		a, b := d.ratio(4, 300), d.ratio(4, 300)
		if d.below(2) == 0 {
			b = api.Ratio{Num: a.Num, Den: api.Dyad{Mag: scaled(a.Den.Mag, big.NewInt(1<<40), int64(d.below(3))), Exp: a.Den.Exp - 40}}
		}
		if c, _ := Cmp(a, b); c > 0 {
			a, b = b, a
		}
		for mode := range 5 {
			x, _ := Quot(a, mode)
			y, _ := Quot(b, mode)
			if x > y {
				t.Errorf("%s is not above %s, but %x and %x by %d", told(a), told(b), x, y, mode)
			}
		}
	}
}
