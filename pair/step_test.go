package pair

import (
	"math"
	"testing"

	"steelyard/api"
)

// P5.1 to P5.4 say how many steps there are; the book is not worth more than that it has them.
func TestBookHasTheSteps(t *testing.T) {
	for name, want := range map[string]int{"Sum": 6, "Quick": 3, "Halves": 4, "Product": 17, "Add": 20, "Mul": 24, "Value": 1} {
		k := newBook()
		if k.ask(name); k.steps != want {
			t.Errorf("%s: %d steps, want %d", name, k.steps, want)
		}
	}
}

// P5.1, P5.2, P5.4: each step as it is written, at every two edges.
func TestTwoNumbersAtEdges(t *testing.T) {
	k := newBook()
	l := append(edges(), odds()[:4]...)
	for _, a := range l {
		for _, b := range l {
			k.both(t, a, b)
			k.value(t, a, b)
		}
	}
}

// P5.3: likewise, Halves from 2^995 on among them, where steps begin to overflow, and the small ones.
func TestOneNumberAtEdges(t *testing.T) {
	k := newBook()
	for _, a := range append(edges(), odds()...) {
		k.alone(t, a)
	}
	for e := -1074; e <= 1023; e++ {
		x := two(e)
		for _, a := range []float64{prev(x), x, next(x), x + x/2, prev(2 * x)} {
			k.alone(t, a)
			k.alone(t, turned(a))
		}
	}
	// The last whose product with 2^27 + 1 is a number, and the first whose is none.
	last := hex(greatest / (1<<27 + 1))
	for b := last - 4; b <= last+4; b++ {
		k.alone(t, math.Float64frombits(b))
		k.alone(t, -math.Float64frombits(b))
	}
}

// P5.5: likewise, at all that can stand in a pair: NaN, infinities, noughts of both signs, overflow.
func TestTwoPairsAtEdges(t *testing.T) {
	k := newBook()
	l := []float64{odds()[3], inf, -inf, 0, minus, 1, -1, least, -least, greatest, -two(1000)}
	for _, a := range l {
		for _, b := range l {
			for _, c := range l {
				for _, d := range l {
					k.pairs(t, api.Pair{Hi: a, Lo: b}, api.Pair{Hi: c, Lo: d})
				}
			}
		}
	}
}

// P5.1 to P5.5: numbers of all sizes; of sizes that lie close; such whose products, and whose halves' products, are small ones.
func TestAnyNumbers(t *testing.T) {
	k, d, l := newBook(), dice(51), edges()
	for range 6000 {
		e := d.below(1900) - 990
		p := api.Pair{Hi: d.sized(e, e+60), Lo: d.sized(e-60, e+10)}
		q := api.Pair{Hi: d.sized(e-9, e+50), Lo: d.of(l)}
		k.both(t, p.Hi, p.Lo)
		k.both(t, p.Lo, q.Hi)
		k.both(t, d.sized(-1074, 1023), d.sized(-1074, 1023))
		k.both(t, d.sized(-560, -500), d.sized(-560, -500))
		k.alone(t, d.sized(-1074, 1023))
		k.pairs(t, p, q)
		k.pairs(t, q, p)
		k.pairs(t, api.Pair{Hi: d.sized(-540, -400), Lo: d.sized(-600, -450)}, api.Pair{Hi: d.sized(-540, -480), Lo: d.sized(-600, -530)})
		k.value(t, p.Hi, p.Lo)
		k.value(t, q.Hi, q.Lo)
	}
}

// Sums that lie midway between two numbers go to the even one, be it on this side or on that, near and far from nought.
func TestMidway(t *testing.T) {
	k := newBook()
	for _, e := range []int{-1021, -1000, -53, -1, 0, 52, 53, 500, 969, 1022} {
		step, half := two(e-52), two(e-53)
		for i := range 9 {
			x := two(e) + float64(i)*step
			even := x
			if i%2 == 1 {
				even = x + step
			}
			for _, sign := range []float64{1, -1} {
				want := api.Pair{Hi: sign * even, Lo: sign * (half - (even - x))}
				is(t, "Sum midway", Sum(sign*x, sign*half), want.Hi, want.Lo)
				is(t, "Sum midway", Sum(sign*half, sign*x), want.Hi, want.Lo)
				is(t, "Quick midway", Quick(sign*x, sign*half), want.Hi, want.Lo)
				k.both(t, sign*half, sign*x)
				if x := Value(api.Pair{Hi: sign * x, Lo: sign * half}); hex(x) != hex(want.Hi) {
					t.Errorf("Value midway: %x, want %x", x, want.Hi)
				}
			}
		}
	}
}

// Products that lie midway: odd whole numbers from 2^53 on, where steps are of 2.
func TestProductMidway(t *testing.T) {
	k := newBook()
	sides := map[float64]int{}
	for i := range 400 {
		a, b := two(27)+float64(2*i+1), two(26)+1
		p := Product(a, b)
		sides[p.Lo]++
		if hex(p.Hi)%2 != 0 {
			t.Errorf("Product(%x, %x): %x is not the even one", a, b, p.Hi)
		}
		k.both(t, a, b)
		k.both(t, -b, a)
	}
	if len(sides) != 2 || sides[1] == 0 || sides[-1] == 0 {
		t.Errorf("lost: %v; want 1 and -1", sides)
	}
}

// R7: no product is put together with the sum it goes into. Each place where that could be done shows itself among these numbers; there the answer is that of single steps.
func TestStepsStandAlone(t *testing.T) {
	k, d := newBook(), dice(57)
	seen := map[string]int{}
	for range 4000 {
		a := d.sized(-1060, 990)
		k.alone(t, a)
		if !alike(Halves(a), fusedHalves(a)) {
			seen["Halves"]++
		}
		a, b := d.sized(-550, -500), d.sized(-550, -500)
		k.both(t, a, b)
		for place, p := range fusedProducts(a, b) {
			if !alike(Product(a, b), p) {
				seen[place]++
			}
		}
		p, q := api.Pair{Hi: d.sized(-3, 3), Lo: d.sized(-6, 3)}, api.Pair{Hi: d.sized(-3, 3), Lo: d.sized(-6, 3)}
		k.pairs(t, p, q)
		for place, m := range fusedMuls(p, q) {
			if !alike(Mul(p, q), m) {
				seen[place]++
			}
		}
	}
	for _, place := range []string{"Halves", "p1", "p2", "p3", "Lo", "r by p", "r by q"} {
		if seen[place] == 0 {
			t.Errorf("%s: no number shows whether steps were put together", place)
		}
	}
}

func fusedHalves(a float64) api.Pair {
	const k = 1<<27 + 1
	hi := stepped(stepped(k, "*", a), "+", math.FMA(-k, a, a))
	return api.Pair{Hi: hi, Lo: stepped(a, "-", hi)}
}

// fusedProducts are Products in which one sum each took a product that was not rounded.
func fusedProducts(a, b float64) map[string]api.Pair {
	hi := stepped(a, "*", b)
	x, y := Halves(a), Halves(b)
	all := map[string]api.Pair{}
	for _, place := range []string{"p1", "p2", "p3", "Lo"} {
		put := func(here string, sum, f, g float64) float64 {
			if here == place {
				return math.FMA(f, g, sum)
			}
			return stepped(sum, "+", stepped(f, "*", g))
		}
		p1 := put("p1", -hi, x.Hi, y.Hi)
		p3 := put("p3", put("p2", p1, x.Hi, y.Lo), x.Lo, y.Hi)
		all[place] = api.Pair{Hi: hi, Lo: put("Lo", p3, x.Lo, y.Lo)}
	}
	return all
}

// fusedMuls are Muls in which one of both products went into the sum before it was rounded.
func fusedMuls(a, b api.Pair) map[string]api.Pair {
	c := Product(a.Hi, b.Hi)
	end := func(r float64) api.Pair { return Quick(c.Hi, stepped(c.Lo, "+", r)) }
	return map[string]api.Pair{
		"r by p": end(math.FMA(a.Hi, b.Lo, stepped(a.Lo, "*", b.Hi))),
		"r by q": end(math.FMA(a.Lo, b.Hi, stepped(a.Hi, "*", b.Lo))),
	}
}
