package pair

import (
	"testing"

	"steelyard/api"
)

// P5.1, P5.2: the chapter's examples.
func TestSumExamples(t *testing.T) {
	is(t, "Sum(1, 2^-60)", Sum(1, two(-60)), 1, two(-60))
	is(t, "Sum(2^-60, 1)", Sum(two(-60), 1), 1, two(-60))
	is(t, "Sum(2^53, 1)", Sum(two(53), 1), two(53), 1)
	is(t, "Quick(2^53, 1)", Quick(two(53), 1), two(53), 1)
	is(t, "Quick(1, 2^53)", Quick(1, two(53)), two(53), 1)
	is(t, "Quick(1, 2^60 + 2^8)", Quick(1, two(60)+two(8)), two(60)+two(8), 0)
	is(t, "Sum(0.1, 0.2)", Sum(0.1, 0.2), 0.30000000000000004, -2.7755575615628914e-17)
	is(t, "Sum(-0, -0)", Sum(minus, minus), minus, 0)
	is(t, "Sum(1, -1)", Sum(1, -1), 0, 0)
	is(t, "Sum(0, -0)", Sum(0, minus), 0, 0)
	is(t, "Sum(greatest, greatest)", Sum(greatest, greatest), inf, odd)
	is(t, "Sum(NaN, 1)", Sum(odd, 1), odd, odd)
	is(t, "Sum(+Inf, 1)", Sum(inf, 1), inf, odd)
}

// P5.3, P5.4: the chapter's examples.
func TestProductExamples(t *testing.T) {
	is(t, "Halves(2^27 + 1)", Halves(two(27)+1), two(27), 1)
	is(t, "Halves(-0)", Halves(minus), 0, minus)
	is(t, "Product(2^27 + 1, 2^27 + 1)", Product(two(27)+1, two(27)+1), 18014398777917440, 1)
	is(t, "Product(0.1, 10)", Product(0.1, 10), 1, 5.551115123125783e-17)
	is(t, "Product(-1, 0)", Product(-1, 0), minus, 0)
	is(t, "Product(2^1000, 1)", Product(two(1000), 1), two(1000), odd)
}

// P5.5: the chapter's examples.
func TestPairExamples(t *testing.T) {
	is(t, "Add((1, 2^-60), (-1, 0))", Add(api.Pair{Hi: 1, Lo: two(-60)}, api.Pair{Hi: -1}), two(-60), 0)
	is(t, "Mul((2^53, 1), (2, 0))", Mul(api.Pair{Hi: two(53), Lo: 1}, api.Pair{Hi: 2}), two(54), 2)
	if x := Value(api.Pair{Hi: 1, Lo: two(-60)}); hex(x) != hex(1) {
		t.Errorf("Value((1, 2^-60)): %x", x)
	}
}

// Both noughts, with the signs that the steps give them, worked out by hand.
func TestNoughts(t *testing.T) {
	is(t, "Sum(0, 0)", Sum(0, 0), 0, 0)
	is(t, "Sum(-0, 0)", Sum(minus, 0), 0, 0)
	is(t, "Quick(0, 0)", Quick(0, 0), 0, 0)
	is(t, "Quick(-0, 0)", Quick(minus, 0), 0, 0)
	is(t, "Quick(0, -0)", Quick(0, minus), 0, minus)
	is(t, "Quick(-0, -0)", Quick(minus, minus), minus, minus)
	is(t, "Halves(0)", Halves(0), 0, 0)
	is(t, "Product(0, 0)", Product(0, 0), 0, 0)
	is(t, "Product(-0, -0)", Product(minus, minus), 0, 0)
	is(t, "Product(0, -1)", Product(0, -1), minus, 0)
	for _, c := range []struct{ hi, lo, want float64 }{{0, 0, 0}, {minus, 0, 0}, {0, minus, 0}, {minus, minus, minus}, {1, -1, 0}, {-1, 1, 0}} {
		if x := Value(api.Pair{Hi: c.hi, Lo: c.lo}); hex(x) != hex(c.want) {
			t.Errorf("Value((%g, %g)): %g, want %g", c.hi, c.lo, x, c.want)
		}
	}
}

// DOC.md, Words: a NaN, of whatever bits and in whatever place, comes out as the one that is answered, in both numbers.
func TestOddsInAnyPlace(t *testing.T) {
	l := append(edges(), odds()...)
	for _, n := range odds() {
		is(t, "Halves(NaN)", Halves(n), odd, odd)
		for _, x := range l {
			for name, call := range map[string]func(a, b float64) api.Pair{"Sum": Sum, "Quick": Quick, "Product": Product} {
				is(t, name+"(NaN, x)", call(n, x), odd, odd)
				is(t, name+"(x, NaN)", call(x, n), odd, odd)
			}
			for name, call := range map[string]func(a, b api.Pair) api.Pair{"Add": Add, "Mul": Mul} {
				is(t, name+"((NaN, x), (1, x))", call(api.Pair{Hi: n, Lo: x}, api.Pair{Hi: 1, Lo: x}), odd, odd)
				is(t, name+"((x, NaN), (x, 0))", call(api.Pair{Hi: x, Lo: n}, api.Pair{Hi: x}), odd, odd)
				is(t, name+"((x, x), (NaN, 1))", call(api.Pair{Hi: x, Lo: x}, api.Pair{Hi: n, Lo: 1}), odd, odd)
				is(t, name+"((1, x), (x, NaN))", call(api.Pair{Hi: 1, Lo: x}, api.Pair{Hi: x, Lo: n}), odd, odd)
			}
			for _, p := range []api.Pair{{Hi: n, Lo: x}, {Hi: x, Lo: n}} {
				if v := Value(p); hex(v) != answered {
					t.Errorf("Value of %x: bits %x", p, hex(v))
				}
			}
		}
	}
}

// Where steps overflow or meet infinities, worked out by hand.
func TestEndless(t *testing.T) {
	for _, s := range []float64{1, -1} {
		is(t, "Sum(1, Inf)", Sum(1, s*inf), s*inf, odd)
		is(t, "Sum(Inf, Inf)", Sum(s*inf, s*inf), s*inf, odd)
		is(t, "Sum(Inf, -Inf)", Sum(s*inf, -s*inf), odd, odd)
		is(t, "Quick(Inf, 1)", Quick(s*inf, 1), s*inf, odd)
		is(t, "Quick(1, Inf)", Quick(1, s*inf), s*inf, odd)
		is(t, "Quick(greatest, greatest)", Quick(s*greatest, s*greatest), s*inf, -s*inf)
		is(t, "Sum(greatest, half a step)", Sum(s*greatest, s*two(970)), s*inf, odd)
		is(t, "Sum(greatest, less)", Sum(s*greatest, s*prev(two(970))), s*greatest, s*prev(two(970)))
		is(t, "Halves(Inf)", Halves(s*inf), odd, odd)
		is(t, "Halves(2^997)", Halves(s*two(997)), odd, odd)
		is(t, "Product(Inf, 2)", Product(s*inf, 2), s*inf, odd)
		is(t, "Product(Inf, 0)", Product(s*inf, 0), odd, odd)
		is(t, "Product(0, Inf)", Product(0, s*inf), odd, odd)
		is(t, "Product(2^512, 2^512)", Product(s*two(512), two(512)), s*inf, odd)
		is(t, "Add((Inf, 0), (1, 0))", Add(api.Pair{Hi: s * inf}, api.Pair{Hi: 1}), odd, odd)
		is(t, "Mul((1, 0), (Inf, 0))", Mul(api.Pair{Hi: 1}, api.Pair{Hi: s * inf}), odd, odd)
		if x := Value(api.Pair{Hi: s * inf, Lo: 1}); hex(x) != hex(s*inf) {
			t.Errorf("Value((Inf, 1)): %g", x)
		}
		if x := Value(api.Pair{Hi: s * inf, Lo: -s * inf}); hex(x) != answered {
			t.Errorf("Value((Inf, -Inf)): bits %x", hex(x))
		}
	}
}

// Near the greatest number it is seen which of two numbers is the first, and which of Sum and Quick it was.
func TestOrderNearTheGreatest(t *testing.T) {
	k := newBook()
	for _, s := range []float64{1, -1} {
		// The sum lies midway: 2^970 of it is lost, and what is left plus 3 times 2^970 overflows.
		great, some := s*greatest, -s*3*two(970)
		is(t, "Sum(greatest, some)", Sum(great, some), s*prev(greatest), -s*two(970))
		is(t, "Sum(some, greatest)", Sum(some, great), s*prev(greatest), odd)
		for _, p := range [][2]api.Pair{{{Hi: great}, {Hi: some}}, {{Lo: great}, {Lo: some}}} {
			k.pairs(t, p[0], p[1])
			k.pairs(t, p[1], p[0])
		}
		a, b := api.Pair{Hi: great, Lo: s * (two(970) - two(918))}, api.Pair{Hi: s * two(917), Lo: s * two(916)}
		is(t, "Add whose last Quick overflows", Add(a, b), s*inf, -s*inf)
	}
}
