package mean

import (
	"math"
	"math/big"
	"slices"
	"testing"

	"steelyard/api"
	"steelyard/bits"
	"steelyard/dyad"
	"steelyard/super"
)

// eachFinite hands on many lists of finite numbers, none of them empty: short ones of all kinds, and others of like sizes, of all, at the ends.
func eachFinite(seed dice, do func(l []float64)) {
	d := seed
	row := nums(0, noughtBelow, least, -least, 1, -1, 0.1, greatest, -greatest)
	for n := range 3 {
		eachList(n+1, row, do)
	}
	for n := 1; n < 90; n++ {
		do(d.list(n, d.near()))
		do(d.list(n, d.finite))
		do(d.list(1+n%9, func() float64 { return d.sized(1022, 1023) }))
		do(d.list(1+n%9, func() float64 { return d.sized(-1074, -1072) }))
		l := d.list(n, d.finite)
		do(d.shuffled(append(l, turnedAll(l)...)))
		x := d.finite()
		do(d.list(n, func() float64 { return d.of(nums(x, math.Nextafter(x, 0))) }))
	}
	do(d.list(5000, d.near()))
}

// P13.6: a mean lies from the least to the greatest of its numbers, by every mode.
func TestMeanLiesAmongItsNumbers(t *testing.T) {
	eachFinite(141, func(l []float64) {
		low, high := slices.MinFunc(l, bits.Order), slices.MaxFunc(l, bits.Order)
		for mode := range 5 {
			x, e := Mean(l, mode, api.Policy{})
			if e != api.OK || !(low <= x && x <= high) {
				t.Errorf("Mean of %d numbers, %x .., mode %d: %x, error %d, not from %x to %x", len(l), brief(l), mode, x, e, low, high)
			}
			for k := range min(3, (len(l)+1)/2) {
				y, e := Trimmed(l, k, mode)
				if e != api.OK || !(low <= y && y <= high) {
					t.Errorf("Trimmed of %d numbers, %x .., by %d, mode %d: %x, error %d, not from %x to %x", len(l), brief(l), k, mode, y, e, low, high)
				}
			}
		}
	})
}

// P13.6: the mean of numbers that are all the same is that one, its sign too.
func TestMeanOfTheSame(t *testing.T) {
	d := dice(142)
	for _, x := range append(edges(), d.list(40, d.finite)...) {
		for _, n := range []int{1, 2, 3, 7, 10, 49, 1000, 1023} {
			l := often(n, x)
			for mode := range 5 {
				y, e := Mean(l, mode, api.Policy{})
				answers(t, "all the same", y, e, x, api.OK)
				y, e = Trimmed(l, (n-1)/2, mode)
				answers(t, "all the same, trimmed", y, e, x, api.OK)
				y, e = Middle(x, x, mode)
				answers(t, "the same twice", y, e, x, api.OK)
			}
		}
	}
}

// P13.7: the other means of the same numbers are the Mean; by like weights, and of the exact sum, noughts have its value alone.
func TestMeansAgree(t *testing.T) {
	d := dice(143)
	eachFinite(144, func(l []float64) {
		acc := super.New()
		for _, x := range l {
			acc.Add(x)
		}
		weight := d.finite()
		for weight == 0 {
			weight = d.finite()
		}
		for mode := range 5 {
			x, e := Mean(l, mode, api.Policy{})
			y, f := Trimmed(l, 0, mode)
			answers(t, "Trimmed by 0", y, f, x, e)
			if len(l) == 2 {
				y, f = Middle(l[0], l[1], mode)
				answers(t, "Middle", y, f, x, e)
			}
			if dyad.Sign(acc.Exact()) == 0 {
				x = 0
			}
			y, f = Weighted(l, often(len(l), weight), mode)
			answers(t, "Weighted by like weights", y, f, x, e)
			y, f = Of(acc.Exact(), len(l), mode)
			answers(t, "Of the exact sum", y, f, x, e)
		}
	})
}

// P13.8: with all signs turned, and the mode too, the Mean has its sign turned; one that is just nought of numbers that are not all -0, nor all +0, has the sign of P13.1.
func TestMeanWithSignsTurned(t *testing.T) {
	check := func(l []float64) {
		m := meantBy(l)
		same := func(nought float64) bool {
			return !slices.ContainsFunc(m.finite, func(x float64) bool { return !sameBits(x, nought) })
		}
		odd := len(m.finite) > 0 && m.exact.m.Sign() == 0 && !same(0) && !same(noughtBelow)
		for mode := range 5 {
			for _, p := range policies() {
				x, e := Mean(l, mode, p)
				y, f := Mean(turnedAll(l), turnedMode(mode), p)
				switch {
				case e != api.OK:
					refuses(t, "signs turned, refused", y, f, e)
				case x != x:
					answers(t, "signs turned, a NaN", y, f, x, e)
				case odd && x == 0:
					is := 0.0
					if turnedMode(mode) == api.Down {
						is = noughtBelow
					}
					answers(t, "signs turned, what cancels", y, f, is, e)
				default:
					answers(t, "signs turned", y, f, turned(x), e)
				}
			}
		}
	}
	eachFinite(145, check)
	eachList(3, few(), check)
	d := dice(146)
	for n := range 60 {
		check(d.list(n, d.any))
	}
}

// P13.9: by Even (and by Away) neither neighbour of what is answered is nearer to the exact mean; by Up and Down it lies between.
func TestNothingIsNearer(t *testing.T) {
	eachFinite(147, func(l []float64) {
		sum, n := total(l), whole(len(l))
		// off is n times how far x lies from the mean.
		off := func(x float64) value {
			v := sum.plus(of(-x).times(n))
			return value{new(big.Int).Abs(v.m), v.exp}
		}
		for _, mode := range []int{api.Even, api.Away} {
			x, _ := Mean(l, mode, api.Policy{})
			for _, y := range []float64{math.Nextafter(x, inf), math.Nextafter(x, -inf)} {
				if y-y != 0 {
					continue
				}
				if c := off(y).stands(off(x)); c < 0 || c == 0 && mode == api.Even && hex(x)%2 == 1 {
					t.Errorf("Mean of %d numbers, %x .., mode %d: %x, but %x is as near, or nearer", len(l), brief(l), mode, x, y)
				}
			}
		}
		up, _ := Mean(l, api.Up, api.Policy{})
		down, _ := Mean(l, api.Down, api.Policy{})
		if of(down).times(n).stands(sum) > 0 || of(up).times(n).stands(sum) < 0 || up != down && math.Nextafter(down, inf) != up {
			t.Errorf("Mean of %d numbers, %x ..: from %x to %x", len(l), brief(l), down, up)
		}
	})
}

// P0.1: no mean hangs on an order.
func TestMeansHangOnNoOrder(t *testing.T) {
	d := dice(148)
	for n := range 80 {
		l, w := d.list(n, d.any), d.list(n, d.finite)
		if n%2 == 1 {
			l = d.list(n, d.finite)
		}
		m := d.shuffled(l)
		for mode := range 5 {
			for _, p := range policies() {
				x, e := Mean(l, mode, p)
				y, f := Mean(m, mode, p)
				answers(t, "Mean", y, f, x, e)
			}
			x, e := Trimmed(l, n/3, mode)
			y, f := Trimmed(m, n/3, mode)
			answers(t, "Trimmed", y, f, x, e)
			x, e = Weighted(l, w, mode)
			back, front := slices.Clone(l), slices.Clone(w)
			slices.Reverse(back)
			slices.Reverse(front)
			y, f = Weighted(back, front, mode)
			answers(t, "Weighted", y, f, x, e)
		}
	}
}

// roomy is a list with spare room behind it, and a way to ask whether either was changed.
func roomy(l []float64) (list []float64, kept func() bool) {
	all := append(slices.Clone(l), 5, -7, 9)
	was := slices.Clone(all)
	return all[:len(l)], func() bool { return slices.EqualFunc(all, was, sameBits) }
}

// R2: no list is changed, nor the spare room behind it, also where a call is refused.
func TestListsStayAsTheyAre(t *testing.T) {
	d := dice(149)
	lists := [][]float64{nil, {3}, {9, 1, 2, 100}, {5, hole, 1, -inf, 0, noughtBelow}, d.list(50, d.any), d.list(51, d.finite), d.list(51, d.near())}
	for _, a := range lists {
		for _, b := range lists {
			l, lKept := roomy(a)
			w, wKept := roomy(b)
			for mode := -1; mode < 6; mode++ {
				for _, p := range append(policies(), api.Policy{NaN: 3}) {
					Mean(l, mode, p)
				}
				Weighted(l, w, mode)
				Weighted(w, l, mode)
				Weighted(l, l, mode)
				for k := -1; k < 4; k++ {
					Trimmed(l, k, mode)
				}
			}
			if !lKept() || !wKept() {
				t.Fatalf("a list of %d or of %d numbers was changed", len(a), len(b))
			}
		}
	}
}

// R2: no Dyad is changed, in its form or not, nor the spare room behind its words.
func TestDyadsStayAsTheyAre(t *testing.T) {
	for _, d := range []api.Dyad{dyad.Int(7), {Neg: true, Mag: api.Nat{0, 14, 0}, Exp: -32}, {Mag: api.Nat{0, 0}, Exp: 9}, {Mag: api.Nat{8, 1}, Exp: api.MaxExp}, {Neg: true, Mag: api.Nat{1, 2, 3, 4}, Exp: -2000}} {
		words := append(slices.Clone(d.Mag), 11, 12, 13)
		was, handed := slices.Clone(words), api.Dyad{Neg: d.Neg, Mag: words[:len(d.Mag)], Exp: d.Exp}
		for mode := -1; mode < 6; mode++ {
			for _, n := range []int{0, 1, 3, api.MaxCount} {
				Of(handed, n, mode)
			}
		}
		if !slices.Equal(words, was) || handed.Neg != d.Neg || handed.Exp != d.Exp || len(handed.Mag) != len(d.Mag) {
			t.Errorf("%+v was changed", d)
		}
	}
}

// R3: nil and an empty list are the same.
func TestNilAndEmpty(t *testing.T) {
	for mode := -1; mode < 6; mode++ {
		for _, p := range append(policies(), strangers()...) {
			x, e := Mean(nil, mode, p)
			y, f := Mean(nums(), mode, p)
			answers(t, "Mean", y, f, x, e)
		}
		for k := -1; k < 3; k++ {
			x, e := Trimmed(nil, k, mode)
			y, f := Trimmed(nums(), k, mode)
			answers(t, "Trimmed", y, f, x, e)
		}
		x, e := Weighted(nil, nil, mode)
		for _, c := range [][2][]float64{{nil, {}}, {{}, nil}, {{}, {}}} {
			y, f := Weighted(c[0], c[1], mode)
			answers(t, "Weighted", y, f, x, e)
		}
		z, e := Of(api.Dyad{}, 3, mode)
		y, f := Of(api.Dyad{Mag: api.Nat{}}, 3, mode)
		answers(t, "Of", y, f, z, e)
	}
}
