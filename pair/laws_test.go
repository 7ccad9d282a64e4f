package pair

import (
	"math"
	"math/bits"
	"testing"

	"steelyard/api"
	"steelyard/dyad"
)

// told is what a pair stands for.
func told(t *testing.T, p api.Pair) api.Dyad {
	t.Helper()
	return joined(t, dyad.Add, of(t, p.Hi), of(t, p.Lo))
}

func of(t *testing.T, x float64) api.Dyad {
	t.Helper()
	d, e := dyad.Of(x)
	if e != api.OK {
		t.Fatalf("%x is not finite", x)
	}
	return d
}

func joined(t *testing.T, do func(a, b api.Dyad) (api.Dyad, api.Errno), a, b api.Dyad) api.Dyad {
	t.Helper()
	d, e := do(a, b)
	if e != api.OK {
		t.Fatalf("error %d", e)
	}
	return d
}

// justSum fails unless the pair is just a + b, its Hi being what that is rounded to.
func justSum(t *testing.T, what string, p api.Pair, a, b float64) {
	t.Helper()
	just(t, what, p, joined(t, dyad.Add, of(t, a), of(t, b)), a, b)
}

func just(t *testing.T, what string, p api.Pair, want api.Dyad, a, b float64) {
	t.Helper()
	if math.IsNaN(p.Hi+p.Lo) || math.IsInf(p.Hi+p.Lo, 0) {
		t.Errorf("%s of %x, %x: (%x, %x)", what, a, b, p.Hi, p.Lo)
		return
	}
	if near, _ := dyad.Round(want, api.Even); dyad.Cmp(told(t, p), want) != 0 || p.Hi != near {
		t.Errorf("%s of %x, %x: (%x, %x) is not just that", what, a, b, p.Hi, p.Lo)
	}
}

// within are those of l whose sizes are at most most.
func within(l []float64, most float64) []float64 {
	var in []float64
	for _, x := range l {
		if math.Abs(x) <= most {
			in = append(in, x)
		}
	}
	return in
}

// P5.6: Sum loses nothing up to 2^1022; nor does Quick, where a's size is at b's or above it.
func TestSumIsJust(t *testing.T) {
	both := func(a, b float64) {
		t.Helper()
		justSum(t, "Sum", Sum(a, b), a, b)
		if math.Abs(a) < math.Abs(b) {
			a, b = b, a
		}
		justSum(t, "Quick", Quick(a, b), a, b)
	}
	l := within(edges(), two(1022))
	for _, a := range l {
		for _, b := range l {
			both(a, b)
		}
	}
	d := dice(61)
	for range 20000 {
		e := d.below(2030) - 1070
		a := d.sized(e, e+60)
		b := d.sized(e, e+60)
		both(a, b)
		both(a, d.sized(-1074, 1021))
		both(a, a)
		both(a, -a)
		both(a, next(a))
		both(-a, prev(a))
		both(a, a/2)
		both(next(a), -a/2)
	}
}

// P5.6 says nothing of Quick where a's size is below b's: there what a had may be lost, and is at these.
func TestQuickLosesOfTheLesser(t *testing.T) {
	k := newBook()
	for _, c := range []struct {
		a, b float64
		lost bool
	}{
		{1, two(60) + two(8), true}, {1, next(two(53)), true}, {1, two(53), false}, {prev(1), 1, true}, {1, next(1), false}, {3, two(54) + 4, true}, {least, 1, true},
	} {
		k.both(t, c.a, c.b)
		p := Quick(c.a, c.b)
		exact := joined(t, dyad.Add, of(t, c.a), of(t, c.b))
		if lost := dyad.Cmp(told(t, p), exact) != 0; lost != c.lost {
			t.Errorf("Quick(%x, %x): (%x, %x); lost %t", c.a, c.b, p.Hi, p.Lo, lost)
		}
	}
}

// short tells whether x is a whole number of at most 26 bits times a power of two.
func short(x float64) bool {
	f, _ := math.Frexp(x)
	n := uint64(math.Abs(f) * (1 << 53))
	return bits.Len64(n)-bits.TrailingZeros64(n) <= 26 || n == 0
}

// P5.6: both halves are short, and make just the number, up to 2^995.
func TestHalvesAreJust(t *testing.T) {
	cut := func(a float64) {
		t.Helper()
		p := Halves(a)
		if !short(p.Hi) || !short(p.Lo) {
			t.Errorf("Halves(%x): (%x, %x): too long", a, p.Hi, p.Lo)
		}
		if dyad.Cmp(told(t, p), of(t, a)) != 0 {
			t.Errorf("Halves(%x): (%x, %x): not just that", a, p.Hi, p.Lo)
		}
	}
	for _, a := range within(edges(), two(995)) {
		cut(a)
	}
	d := dice(62)
	for range 20000 {
		cut(d.sized(-1074, 994))
		cut(d.sized(990, 994))
		cut(d.sized(-1074, -1000))
		cut(float64(d.roll()))
	}
	for e := -1074; e < 995; e++ {
		cut(two(e))
		cut(prev(two(e + 1)))
		cut(-next(two(e)))
	}
	cut(two(995))
	cut(-two(995))
}

// kept tells whether P5.6 speaks of the product of a and b.
func kept(t *testing.T, a, b float64) bool {
	t.Helper()
	if math.Abs(a) > two(995) || math.Abs(b) > two(995) {
		return false
	}
	p := joined(t, dyad.Mul, of(t, a), of(t, b))
	p.Neg = false
	return dyad.Sign(p) == 0 || dyad.Cmp(p, of(t, two(-969))) >= 0 && dyad.Cmp(p, of(t, two(1021))) <= 0
}

// P5.6: Product loses nothing of a product that is nought, or has a size from 2^-969 to 2^1021.
func TestProductIsJust(t *testing.T) {
	count := 0
	both := func(a, b float64) {
		t.Helper()
		if !math.IsInf(a, 0) && !math.IsInf(b, 0) && kept(t, a, b) {
			count++
			just(t, "Product", Product(a, b), joined(t, dyad.Mul, of(t, a), of(t, b)), a, b)
		}
	}
	l := edges()
	for _, a := range l {
		for _, b := range l {
			both(a, b)
		}
	}
	d := dice(63)
	for range 20000 {
		a := d.sized(-1074, 994)
		e := int(math.Logb(a))
		both(a, d.sized(-1074, 994))
		both(a, d.sized(max(-970-e, -1074), max(-965-e, -1074)))
		both(d.sized(min(1018-e, 994), min(1021-e, 994)), a)
		both(d.sized(-3, 3), d.sized(-3, 3))
		both(a, 0)
	}
	for e := -1074; e <= 995; e++ {
		both(two(e), two(-969-e))
		both(-next(two(e)), next(two(-969-e)))
		both(two(e), two(1021-e))
		both(two(e), -prev(two(1021-e)))
	}
	if count < 60000 {
		t.Errorf("only %d products were looked at", count)
	}
}

// good makes a pair of that Hi good: Lo is any that Hi can bear, at the ends of what it can bear, or nought.
func (d *dice) good(hi float64) api.Pair {
	half := math.Abs(next(hi)-hi) / 2
	lo := []float64{0, half, -half, half / 2, -half / 2, prev(half), -prev(half), prev(half / 2), -prev(half / 2), half * d.sized(-1, -1), half * d.sized(-60, -2), least, -least}[d.below(13)]
	if plus(hi, lo) != hi {
		lo = 0
	}
	return api.Pair{Hi: hi, Lo: lo}
}

// off fails unless the pair stands for a number that is off the exact one by at most 2^-less of its size.
func off(t *testing.T, what string, p api.Pair, exact api.Dyad, less int, a, b api.Pair) {
	t.Helper()
	d := joined(t, dyad.Sub, told(t, p), exact)
	d.Neg, exact.Neg = false, false
	if dyad.Cmp(joined(t, dyad.Mul, d, of(t, two(less))), exact) > 0 {
		t.Errorf("%s of %x, %x: (%x, %x) is off by more than 2^-%d", what, a, b, p.Hi, p.Lo, less)
	}
}

// P5.7: sums and products of good pairs are off by next to nothing, sums that cancel among them; exact noughts are told as such.
func TestPairsAreNear(t *testing.T) {
	near := func(a, b api.Pair) {
		t.Helper()
		off(t, "Add", Add(a, b), joined(t, dyad.Add, told(t, a), told(t, b)), 104, a, b)
		off(t, "Mul", Mul(a, b), joined(t, dyad.Mul, told(t, a), told(t, b)), 103, a, b)
	}
	d := dice(64)
	for range 20000 {
		e := d.below(738) - 399
		a := d.good(d.sized(e, e+59))
		b := d.good(d.sized(e, e+59))
		near(a, b)
		near(a, d.good(d.sized(-400, 399)))
		near(a, api.Pair{Hi: -a.Hi, Lo: -a.Lo})
		near(a, api.Pair{Hi: -a.Hi, Lo: a.Lo})
		near(a, d.good(-a.Hi))
		near(a, d.good(-next(a.Hi)))
		near(a, d.good(-2*a.Hi))
		near(a, d.good(prev(-a.Hi/2)))
		near(a, api.Pair{})
		near(api.Pair{Hi: minus, Lo: minus}, a)
		near(a, a)
	}
}

// P5.7 at the ends of the sizes, and at pairs that are known to come nearest to the bound.
func TestPairsAreNearAtTheEnds(t *testing.T) {
	low, high := two(-400), two(400)
	var l []api.Pair
	for _, hi := range []float64{low, next(low), 2 * low, high, prev(high), high / 2, 1, next(1), prev(1)} {
		for _, lo := range []float64{0, minus, least, -least, hi * two(-54), -hi * two(-54), hi * two(-53), -hi * two(-53), hi * prev(two(-53)), -hi * prev(two(-54)), hi * two(-107)} {
			if plus(hi, lo) == hi {
				l = append(l, api.Pair{Hi: hi, Lo: lo}, api.Pair{Hi: -hi, Lo: -lo})
			}
		}
	}
	l = append(l, api.Pair{}, api.Pair{Hi: minus}, api.Pair{Lo: minus}, api.Pair{Hi: minus, Lo: minus},
		api.Pair{Hi: 9007199254740991, Lo: -9007199254740991 * two(-54)}, api.Pair{Hi: -9007199254740987 * 0.5, Lo: -9007199254740991 * two(-56)})
	for _, a := range l {
		for _, b := range l {
			off(t, "Add", Add(a, b), joined(t, dyad.Add, told(t, a), told(t, b)), 104, a, b)
			off(t, "Mul", Mul(a, b), joined(t, dyad.Mul, told(t, a), told(t, b)), 103, a, b)
		}
	}
}
