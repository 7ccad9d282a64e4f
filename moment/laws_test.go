package moment

import (
	"math"
	"slices"
	"testing"

	"steelyard/api"
	"steelyard/dyad"
	"steelyard/super"
)

// eachFinite hands on many lists of finite numbers, none of them empty: short ones of all kinds, and others of like sizes, of all, at the ends, close together.
func eachFinite(seed dice, do func(l []float64)) {
	d := seed
	for n := range 3 {
		eachList(n+1, nums(0, noughtBelow, least, 1, -1, 0.1, greatest, -greatest), do)
	}
	for n := 1; n < 45; n++ {
		do(d.list(n, d.near()))
		do(d.list(n, d.finite))
		do(d.list(n, d.close()))
		do(d.list(1+n%9, func() float64 { return d.sized(1022, 1023) }))
		do(d.list(1+n%9, func() float64 { return d.sized(-1074, -1072) }))
		do(often(n, d.finite()))
		l := d.list(n, d.finite)
		do(d.shuffled(append(l, turnedAll(l)...)))
	}
	do(d.list(1500, d.near()))
}

// one tells whether all numbers have one value, both noughts being one.
func one(l []float64) bool {
	return !slices.ContainsFunc(l, func(x float64) bool { return x != l[0] })
}

// middling is a way to throw numbers whose spreads come nowhere near an end of the numbers' sizes.
func (d *dice) middling() float64 {
	if d.below(8) == 0 {
		return d.of(nums(0, noughtBelow, 1, -1, 0.1, 3))
	}
	return d.sized(-100, 100)
}

// P14.7: Var is that of n, the exact sum, the exact sum of squares.
func TestVarIsOf(t *testing.T) {
	eachFinite(172, func(l []float64) {
		sum, squares := super.New(), super.New()
		for _, x := range l {
			sum.Add(x)
			squares.AddProduct(x, x)
		}
		for off := range 2 {
			for mode := range 5 {
				x, e := Var(l, off, mode, api.Policy{})
				y, f := Of(len(l), sum.Exact(), squares.Exact(), off, mode)
				answers(t, "Of", y, f, x, e)
			}
		}
	})
}

// P14.7: Var is never below nought; where all numbers have one value it is nought, where not, above (by Up always, by all modes where nothing comes near an end).
func TestVarStandsToNought(t *testing.T) {
	eachFinite(173, func(l []float64) {
		for off := range min(2, len(l)) {
			for mode := range 5 {
				for name, call := range either() {
					x, e := call(l, off, mode, api.Policy{})
					if e != api.OK || math.Signbit(x) || one(l) && x != 0 || !one(l) && mode == api.Up && x == 0 {
						t.Errorf("%s of %d numbers, %x .., less %d, mode %d: %x, error %d", name, len(l), brief(l), off, mode, x, e)
					}
				}
			}
		}
	})
	d := dice(174)
	for n := 2; n < 200; n++ {
		l := d.list(n, d.middling)
		if one(l) {
			continue
		}
		for mode := range 5 {
			x, e := Var(l, n%2, mode, api.Policy{})
			if e != api.OK || !(x > 0) {
				t.Errorf("Var of %d numbers, %x .., mode %d: %x, error %d, not above nought", n, brief(l), mode, x, e)
			}
		}
	}
}

// P14.7: Link lies from -1 to 1; of a list and itself it is 1, of a list and itself turned -1.
func TestLinkLiesFromOneToOne(t *testing.T) {
	d := dice(175)
	eachFinite(176, func(l []float64) {
		other := d.list(len(l), d.finite)
		for mode := range 5 {
			x, e := Link(l, l, mode)
			y, f := Link(l, turnedAll(l), mode)
			z, g := Link(turnedAll(l), l, mode)
			if one(l) {
				refuses(t, "a list that doesn't vary, and itself", x, e, api.ErrFlat)
				refuses(t, "a list that doesn't vary, and itself turned", y, f, api.ErrFlat)
				refuses(t, "a list that doesn't vary, turned, and itself", z, g, api.ErrFlat)
				continue
			}
			answers(t, "a list and itself", x, e, 1, api.OK)
			answers(t, "a list and itself turned", y, f, -1, api.OK)
			answers(t, "a list turned, and itself", z, g, -1, api.OK)
			if x, e := Link(l, other, mode); !one(other) && (e != api.OK || !(-1 <= x && x <= 1)) {
				t.Errorf("Link of %d numbers, %x .. and %x .., mode %d: %x, error %d, not from -1 to 1", len(l), brief(l), brief(other), mode, x, e)
			}
		}
	})
}

// P14.7: Co of a list and itself is its Var, Central of 2 Var by less 0, Central of 1 +0.
func TestCoAndCentralAreVar(t *testing.T) {
	eachFinite(177, func(l []float64) {
		for mode := range 5 {
			for off := range 2 {
				x, e := Var(l, off, mode, api.Policy{})
				y, f := Co(l, l, off, mode)
				answers(t, "Co of a list and itself", y, f, x, e)
			}
			x, e := Var(l, 0, mode, api.Policy{})
			y, f := Central(l, 2, mode)
			answers(t, "Central of 2", y, f, x, e)
			y, f = Central(l, 1, mode)
			answers(t, "Central of 1", y, f, 0, api.OK)
		}
	})
}

// P14.7: of numbers twice as great Var is four times as great, Std twice, Link the same, where nothing comes near an end.
func TestDoubled(t *testing.T) {
	d := dice(178)
	double := func(l []float64) []float64 {
		l = slices.Clone(l)
		for i := range l {
			l[i] *= 2
		}
		return l
	}
	for n := 2; n < 80; n++ {
		a, b := d.list(n, d.middling), d.list(n, d.middling)
		for mode := range 5 {
			for off := range 2 {
				x, e := Var(a, off, mode, api.Policy{})
				y, f := Var(double(a), off, mode, api.Policy{})
				answers(t, "Var", y, f, 4*x, e)
				x, e = Std(a, off, mode, api.Policy{})
				y, f = Std(double(a), off, mode, api.Policy{})
				answers(t, "Std", y, f, 2*x, e)
				x, e = Co(a, b, off, mode)
				y, f = Co(double(a), b, off, mode)
				answers(t, "Co", y, f, 2*x, e)
			}
			x, e := Link(a, b, mode)
			y, f := Link(double(a), b, mode)
			answers(t, "Link", y, f, x, e)
			y, f = Link(double(a), double(b), mode)
			answers(t, "Link of both", y, f, x, e)
		}
	}
}

// P14.7, P0.1: none hangs on the order of the numbers; of two lists, of the pairs.
func TestNothingHangsOnOrder(t *testing.T) {
	d := dice(179)
	for n := range 50 {
		l := d.list(n, d.any)
		if n%2 == 1 {
			l = d.list(n, d.finite)
		}
		other := d.list(n, d.finite)
		m := d.shuffled(l)
		a, b := d.dealt(l, other)
		for mode := range 5 {
			for off := range 2 {
				for name, call := range either() {
					for _, p := range policies() {
						x, e := call(l, off, mode, p)
						y, f := call(m, off, mode, p)
						answers(t, name, y, f, x, e)
					}
				}
				x, e := Co(l, other, off, mode)
				y, f := Co(a, b, off, mode)
				answers(t, "Co", y, f, x, e)
			}
			for k := 1; k <= 4; k++ {
				x, e := Central(l, k, mode)
				y, f := Central(m, k, mode)
				answers(t, "Central", y, f, x, e)
			}
			x, e := Link(l, other, mode)
			y, f := Link(a, b, mode)
			answers(t, "Link", y, f, x, e)
		}
	}
}

// P0.2: what Down and Up tell of a variance, of its root, of a common spread, of how two lists go together, are neighbours, or the same; all other modes tell one of the two.
func TestModesAreNeighbours(t *testing.T) {
	d := dice(180)
	for n := 2; n < 60; n++ {
		a, b := d.list(n, d.near()), d.list(n, d.near())
		for name, call := range map[string]func(mode int) (float64, api.Errno){
			"Var":     func(mode int) (float64, api.Errno) { return Var(a, 1, mode, api.Policy{}) },
			"Std":     func(mode int) (float64, api.Errno) { return Std(a, 0, mode, api.Policy{}) },
			"Central": func(mode int) (float64, api.Errno) { return Central(a, 3, mode) },
			"Co":      func(mode int) (float64, api.Errno) { return Co(a, b, 0, mode) },
			"Link":    func(mode int) (float64, api.Errno) { return Link(a, b, mode) },
		} {
			up, _ := call(api.Up)
			down, _ := call(api.Down)
			if up != down && math.Nextafter(down, inf) != up {
				t.Errorf("%s of %d numbers, %x ..: from %x to %x", name, n, brief(a), down, up)
			}
			for _, mode := range []int{api.Even, api.Zero, api.Away} {
				if x, e := call(mode); e != api.OK || x != up && x != down {
					t.Errorf("%s of %d numbers, %x .., mode %d: %x, error %d, neither %x nor %x", name, n, brief(a), mode, x, e, down, up)
				}
			}
		}
	}
}

// R3: nil and an empty list are the same.
func TestNilAndEmpty(t *testing.T) {
	for mode := -1; mode < 6; mode++ {
		for off := -1; off < 3; off++ {
			for name, call := range either() {
				for _, p := range append(policies(), strangers()...) {
					x, e := call(nil, off, mode, p)
					y, f := call(nums(), off, mode, p)
					answers(t, name, y, f, x, e)
				}
			}
			x, e := Co(nil, nil, off, mode)
			for _, c := range [][2][]float64{{nil, {}}, {{}, nil}, {{}, {}}} {
				y, f := Co(c[0], c[1], off, mode)
				answers(t, "Co", y, f, x, e)
			}
			x, e = Of(3, api.Dyad{}, dyad.Int(5), off, mode)
			y, f := Of(3, api.Dyad{Mag: api.Nat{}}, dyad.Int(5), off, mode)
			answers(t, "Of", y, f, x, e)
		}
		for k := range 6 {
			x, e := Central(nil, k, mode)
			y, f := Central(nums(), k, mode)
			answers(t, "Central", y, f, x, e)
		}
		x, e := Link(nil, nil, mode)
		for _, c := range [][2][]float64{{nil, {}}, {{}, nil}, {{}, {}}} {
			y, f := Link(c[0], c[1], mode)
			answers(t, "Link", y, f, x, e)
		}
	}
}
