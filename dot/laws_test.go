package dot

import (
	"math"
	"slices"
	"testing"

	"steelyard/api"
	"steelyard/sums"
)

// What follows: Dot hangs on neither the order of the two lists nor that of the places, by any mode and policy.
func TestDotHangsOnNoOrder(t *testing.T) {
	d := dice(131)
	for n := range 60 {
		a, b := d.list(n, d.any), d.list(n, d.any)
		if n%2 == 1 {
			a, b = d.list(n, d.finite), d.list(n, d.finite)
		}
		for range 4 {
			c, f := d.shuffled(a, b)
			for mode := range 5 {
				for _, p := range policies() {
					x, e := Dot(a, b, mode, p)
					y, g := Dot(b, a, mode, p)
					answers(t, "the other list first", y, g, x, e)
					y, g = Dot(c, f, mode, p)
					answers(t, "the places in another order", y, g, x, e)
				}
			}
		}
	}
}

// What follows: Dot of a list and as many ones is chapter 10's Exact.
func TestDotWithOnesIsTheSum(t *testing.T) {
	d := dice(132)
	check := func(l []float64) {
		t.Helper()
		ones := often(len(l), 1)
		for mode := range 5 {
			for _, p := range policies() {
				x, e := sums.Exact(l, mode, p)
				y, f := Dot(l, ones, mode, p)
				answers(t, "with ones", y, f, x, e)
				y, f = Dot(ones, l, mode, p)
				answers(t, "ones with it", y, f, x, e)
			}
		}
	}
	for n := range 4 {
		eachList(n, few(), check)
	}
	for n := range 80 {
		check(d.list(n, d.any))
		check(d.list(n, d.finite))
		check(d.list(n, d.near()))
	}
	check(d.list(longest, d.near()))
}

// P0.1: neither Norm nor Distance hangs on the order of the places, nor on signs.
func TestLengthsHangOnNoOrder(t *testing.T) {
	d := dice(133)
	for n := range 120 {
		a, b := d.list(n, d.finite), d.list(n, d.finite)
		if n%3 == 0 {
			a, b = d.list(n, d.any), d.list(n, d.any)
		}
		c, f := d.shuffled(a, b)
		less, other := slices.Clone(a), slices.Clone(b)
		for i := range less {
			less[i], other[i] = turned(less[i]), turned(other[i])
		}
		for mode := range 5 {
			x, e := Norm(a, mode)
			y, g := Norm(c, mode)
			answers(t, "Norm in another order", y, g, x, e)
			y, g = Norm(less, mode)
			answers(t, "Norm with the signs turned", y, g, x, e)
			x, e = Distance(a, b, mode)
			y, g = Distance(c, f, mode)
			answers(t, "Distance in another order", y, g, x, e)
			y, g = Distance(less, other, mode)
			answers(t, "Distance with the signs turned", y, g, x, e)
		}
	}
}

// What follows: Distance turned round is the same; to as many noughts it is Norm.
func TestDistanceAndNorm(t *testing.T) {
	d := dice(134)
	check := func(a, b []float64) {
		t.Helper()
		for mode := range 5 {
			x, e := Distance(a, b, mode)
			y, f := Distance(b, a, mode)
			answers(t, "turned round", y, f, x, e)
			x, e = Norm(a, mode)
			for _, nought := range []float64{0, noughtBelow} {
				y, f = Distance(a, often(len(a), nought), mode)
				answers(t, "to noughts", y, f, x, e)
				y, f = Distance(often(len(a), nought), a, mode)
				answers(t, "from noughts", y, f, x, e)
			}
		}
	}
	eachList(4, few(), func(l []float64) { check(l[:2], l[2:]) })
	for n := range 150 {
		check(d.list(n, d.any), d.list(n, d.any))
		check(d.list(n, d.finite), d.list(n, d.finite))
		check(d.list(n, d.near()), d.list(n, d.near()))
	}
}

// What follows: of finite numbers the square of Norm by Down is at most the sum of the squares, by Up at least; the two are one, or neighbours.
func TestNormLiesBetween(t *testing.T) {
	d := dice(135)
	check := func(a []float64) {
		t.Helper()
		down, e := Norm(a, api.Down)
		up, f := Norm(a, api.Up)
		if e != api.OK || f != api.OK {
			t.Fatalf("Norm of %x ..: errors %d and %d", brief(a), e, f)
		}
		s := squares(a)
		if x := of(down); s.stands(x.times(x)) < 0 {
			t.Errorf("Norm of %x .. by Down, %x, is too great", brief(a), down)
		}
		if x := of(up); !math.IsInf(up, 1) && s.stands(x.times(x)) > 0 {
			t.Errorf("Norm of %x .. by Up, %x, is too small", brief(a), up)
		}
		if x := of(down); down == up && s.stands(x.times(x)) != 0 || down != up && math.Nextafter(down, inf) != up {
			t.Errorf("Norm of %x ..: Down %x, Up %x", brief(a), down, up)
		}
	}
	for n := range 400 {
		check(d.list(n%90, d.near()))
		check(d.list(n%30, d.finite))
		check(d.list(n%4, func() float64 { return d.sized(-1074, -1065) }))
	}
}

// What follows: Poly at 2^k is Dot of c and the powers of it, where these are numbers (but for the sign of a nought).
func TestPolyIsDotOfPowers(t *testing.T) {
	d := dice(136)
	for i := range 400 {
		n := 1 + i%highest
		k := d.below(60) - 30
		if n <= 8 {
			k = d.below(280) - 140
		}
		x := two(k)
		if i%3 == 0 {
			x = -x
		}
		powers := nums(1)
		for len(powers) < n {
			powers = append(powers, powers[len(powers)-1]*x)
		}
		for _, c := range [][]float64{d.list(n, d.near()), d.list(n, d.finite), often(n, noughtBelow)} {
			for mode := range 5 {
				y, e := Poly(c, x, mode)
				z, f := Dot(c, powers, mode, api.Policy{})
				if _, exact := polyOf(c, x); exact.m.Sign() == 0 {
					z = math.Abs(z)
				}
				answers(t, "a polynomial and a sum of products", y, e, z, f)
			}
		}
	}
}

// P0.2: Down is not above Up, Even and Away lie between, and Zero is the one of both that lies towards nought; of all four.
func TestModesStandInOrder(t *testing.T) {
	d := dice(137)
	for i := range 300 {
		n := i % 30
		a, b, x := d.list(n, d.near()), d.list(n, d.near()), d.sized(-20, 20)
		for name, ask := range map[string]func(mode int) (float64, api.Errno){
			"Dot":      func(mode int) (float64, api.Errno) { return Dot(a, b, mode, api.Policy{}) },
			"Norm":     func(mode int) (float64, api.Errno) { return Norm(a, mode) },
			"Distance": func(mode int) (float64, api.Errno) { return Distance(a, b, mode) },
			"Poly":     func(mode int) (float64, api.Errno) { return Poly(a, x, mode) },
		} {
			var y [5]float64
			for mode := range 5 {
				y[mode], _ = ask(mode)
			}
			down, up := y[api.Down], y[api.Up]
			towards := down
			if down < 0 {
				towards = up
			}
			within := func(x float64) bool { return x == down || x == up }
			if down > up || !within(y[api.Even]) || !within(y[api.Away]) || y[api.Zero] != towards {
				t.Errorf("%s: %x by the five modes", name, y)
			}
		}
	}
}

// roomy is a list with spare room behind it that holds numbers of its own.
func roomy(l []float64) []float64 {
	return append(slices.Clone(l), 7, hole, -inf)[:len(l)]
}

func bitsOf(l []float64) []uint64 {
	var all []uint64
	for _, x := range l[:cap(l)] {
		all = append(all, hex(x))
	}
	return all
}

// R2: no list that is handed in is changed, nor the spare room behind it; not where a call is refused, either.
func TestListsStayAsTheyAre(t *testing.T) {
	d := dice(138)
	for n := range 80 {
		a, b := roomy(d.list(n, d.any)), roomy(d.list(n, d.any))
		if n%2 == 1 {
			a, b = roomy(d.list(n, d.finite)), roomy(d.list(n, d.finite))
		}
		before, beside := bitsOf(a), bitsOf(b)
		for mode := range 6 {
			for _, p := range append(policies(), api.Policy{NaN: 3}) {
				Dot(a, b, mode, p)
				Dot(a, b[:n/2], mode, p)
			}
			Norm(a, mode)
			Distance(a, b, mode)
			Distance(a[:n/2], b, mode)
			Poly(a, 1.5, mode)
			Poly(b, inf, mode)
		}
		if !slices.Equal(bitsOf(a), before) || !slices.Equal(bitsOf(b), beside) {
			t.Errorf("lists of %d numbers have changed", n)
		}
	}
}

// R2, R6: one list at both places answers as two alike do; what was asked before changes nothing; an empty list is as none.
func TestOneListAtBothPlaces(t *testing.T) {
	d := dice(139)
	for n := range 40 {
		a := d.list(n, d.any)
		for mode := range 5 {
			for _, p := range policies() {
				x, e := Dot(a, slices.Clone(a), mode, p)
				y, f := Dot(a, a, mode, p)
				answers(t, "Dot of one list", y, f, x, e)
			}
			x, e := Distance(a, slices.Clone(a), mode)
			y, f := Distance(a, a, mode)
			answers(t, "Distance of one list", y, f, x, e)
		}
	}
	for mode := range 5 {
		for _, none := range [][]float64{nil, {}, make([]float64, 0, 5)} {
			x, e := Dot(none, nil, mode, api.Policy{})
			answers(t, "Dot of none", x, e, 0, api.OK)
			x, e = Norm(none, mode)
			answers(t, "Norm of none", x, e, 0, api.OK)
			x, e = Distance(nil, none, mode)
			answers(t, "Distance of none", x, e, 0, api.OK)
			x, e = Poly(none, -greatest, mode)
			answers(t, "Poly of none", x, e, 0, api.OK)
		}
	}
}
