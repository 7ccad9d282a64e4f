package dyad

import (
	"math"
	"testing"

	"steelyard/api"
)

// What follows: Round of Of(x) is x, by every mode; of -0 it is +0.
func TestThereAndBack(t *testing.T) {
	for _, x := range floats() {
		d, _ := Of(x)
		want := math.Float64bits(x + 0) // +0 of both noughts
		for mode := api.Even; mode <= api.Away; mode++ {
			if y, e := Round(d, mode); e != api.OK || math.Float64bits(y) != want {
				t.Errorf("Round of Of(%x) by %d: %x, error %d", x, mode, y, e)
			}
		}
	}
}

// What follows: neither order nor grouping, a product of a sum, the way back, Cmp as the Sign of Sub.
func TestLaws(t *testing.T) {
	told := func(d api.Dyad, e api.Errno) api.Dyad {
		t.Helper()
		if e != api.OK {
			t.Errorf("error %d", e)
		}
		return d
	}
	alike := func(what string, a, b api.Dyad) {
		t.Helper()
		if !same(a, b) {
			t.Errorf("%s: %s and %s", what, brief(a), brief(b))
		}
	}
	d := dice(37)
	for range 2500 {
		a, b, c := d.dyad(6, 300), d.dyad(6, 300), d.dyad(6, 300)
		alike("a + b, b + a", told(Add(a, b)), told(Add(b, a)))
		alike("a b, b a", told(Mul(a, b)), told(Mul(b, a)))
		alike("(a + b) + c, a + (b + c)", told(Add(told(Add(a, b)), c)), told(Add(a, told(Add(b, c)))))
		alike("(a b) c, a (b c)", told(Mul(told(Mul(a, b)), c)), told(Mul(a, told(Mul(b, c)))))
		alike("a (b + c), a b + a c", told(Mul(a, told(Add(b, c)))), told(Add(told(Mul(a, b)), told(Mul(a, c)))))
		alike("a + b less b", told(Sub(told(Add(a, b)), b)), told(Make(a.Neg, a.Mag, a.Exp)))
		if Cmp(a, b) != Sign(told(Sub(a, b))) {
			t.Errorf("Cmp of %s and %s is not the Sign of Sub", brief(a), brief(b))
		}
	}
}

// What follows: what is not greater is not rounded to what is greater; Down is not above the value, Up not below it, no number lies between the two, and a finite one of Even or Away is not further off than either.
func TestRoundingKeepsOrder(t *testing.T) {
	d := dice(38)
	for range 3000 {
		a := d.dyad(4, 1150)
		b := api.Dyad{Neg: a.Neg, Mag: shifted(a.Mag, 1+uint(d.below(99))), Exp: a.Exp - 50}
		if d.below(2) == 0 {
			b = d.dyad(4, 1150)
		}
		if Cmp(a, b) > 0 {
			a, b = b, a
		}
		for mode := api.Even; mode <= api.Away; mode++ {
			x, _ := Round(a, mode)
			y, _ := Round(b, mode)
			u, _ := Round32(a, mode)
			v, _ := Round32(b, mode)
			if x > y || u > v {
				t.Errorf("%s is not above %s, but %x and %x, %x and %x by %d", brief(a), brief(b), x, y, u, v, mode)
			}
		}
		sides(t, a)
	}
}

func sides(t *testing.T, a api.Dyad) {
	t.Helper()
	down, _ := Round(a, api.Down)
	up, _ := Round(a, api.Up)
	low, e := Of(down)
	high, e2 := Of(up)
	if e == api.OK && Cmp(low, a) > 0 || e2 == api.OK && Cmp(high, a) < 0 {
		t.Errorf("%s is not between %x and %x", brief(a), down, up)
	}
	if down != up && math.Nextafter(down, up) != up {
		t.Errorf("%s: there is a number between %x and %x", brief(a), down, up)
	}
	for _, mode := range []int{api.Even, api.Away} {
		x, _ := Round(a, mode)
		near, e3 := Of(x)
		if e != api.OK || e2 != api.OK || e3 != api.OK {
			continue
		}
		if Cmp(far(near, a), far(low, a)) > 0 || Cmp(far(near, a), far(high, a)) > 0 {
			t.Errorf("%s: %x by %d is not the nearest", brief(a), x, mode)
		}
	}
}

// far is how far two lie apart.
func far(a, b api.Dyad) api.Dyad {
	d, _ := Sub(a, b)
	d.Neg = false
	return d
}
