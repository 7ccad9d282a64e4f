package bits

import (
	"math"
	"math/big"
	"slices"
	"testing"
)

// P1.4, the chapter's words and examples one by one.
func TestNextExamples(t *testing.T) {
	for _, c := range []struct{ x, want float64 }{
		{1, 1 + 0x1p-52},
		{-1, -1 + 0x1p-53},
		{-1 - 0x1p-52, -1},
		{2 - 0x1p-52, 2},
		{0, least},
		{minus(), least},
		{-least, minus()},
		{0x1p-1022 - least, 0x1p-1022},
		{greatest, inf(1)},
		{inf(1), inf(1)},
		{inf(-1), -greatest},
	} {
		sameBits(t, "Next", Next(c.x), c.want)
	}
}

// P1.4.
func TestPrevExamples(t *testing.T) {
	for _, c := range []struct{ x, want float64 }{
		{1, 1 - 0x1p-53},
		{-1, -1 - 0x1p-52},
		{0, -least},
		{minus(), -least},
		{least, 0},
		{0x1p-1022, 0x1p-1022 - least},
		{-greatest, inf(-1)},
		{inf(-1), inf(-1)},
		{inf(1), greatest},
	} {
		sameBits(t, "Prev", Prev(c.x), c.want)
	}
}

// P1.4: of a NaN the one that is answered.
func TestNeighboursOfNaN(t *testing.T) {
	for _, x := range odds() {
		sameBits(t, "Next", Next(x), NaN())
		sameBits(t, "Prev", Prev(x), NaN())
		sameBits(t, "Ulp", Ulp(x), NaN())
	}
}

// P1.4: the library's neighbours are the same values; P1.4 also fixes Prev by Next.
func TestNeighboursOfAll(t *testing.T) {
	for _, x := range spreadOut() {
		if want := math.Nextafter(x, inf(1)); Next(x) != want {
			t.Errorf("Next(%g): %g, want %g", x, Next(x), want)
		}
		if want := math.Nextafter(x, inf(-1)); Prev(x) != want {
			t.Errorf("Prev(%g): %g, want %g", x, Prev(x), want)
		}
		sameBits(t, "Prev", Prev(x), -Next(-x))
	}
}

// P1.10.
func TestNeighboursGoBack(t *testing.T) {
	for _, x := range spreadOut() {
		if hex(x) != hex(minus()) && x != inf(1) {
			sameBits(t, "Prev(Next(x))", Prev(Next(x)), x)
		}
		if hex(x) != 0 && x != inf(-1) {
			sameBits(t, "Next(Prev(x))", Next(Prev(x)), x)
		}
	}
}

// P1.10: no number lies between x and Next(x): the one that lies next to x in a row of all, told by their bits, is it.
func TestNothingBetween(t *testing.T) {
	place := func(x float64) int64 { // alike for both noughts
		if b := int64(hex(x)); b < 0 {
			return math.MinInt64 - b
		}
		return int64(hex(x))
	}
	for _, x := range spreadOut() {
		if x != inf(1) && place(Next(x)) != place(x)+1 {
			t.Errorf("between %g and Next %g", x, Next(x))
		}
		if x != inf(-1) && place(Prev(x)) != place(x)-1 {
			t.Errorf("between %g and Prev %g", x, Prev(x))
		}
	}
}

// P1.5, the chapter's examples and the edges.
func TestUlpExamples(t *testing.T) {
	for _, c := range []struct{ x, want float64 }{
		{0, least},
		{minus(), least},
		{least, least},
		{-0x1p-1022 + least, least},
		{0x1p-1022, least},
		{-0x1p-1021, 2 * least},
		{1, 0x1p-52},
		{1 - 0x1p-53, 0x1p-53},
		{-3, 0x1p-51},
		{greatest, 0x1p971},
		{-greatest, 0x1p971},
		{inf(1), inf(1)},
		{inf(-1), inf(1)},
	} {
		sameBits(t, "Ulp", Ulp(c.x), c.want)
	}
}

// P1.5: two to the power of Exp; and how far the next greater one lies from |x|, for all but the greatest.
func TestUlpOfAll(t *testing.T) {
	for _, x := range spreadOut() {
		if math.IsInf(x, 0) {
			continue
		}
		got := size(Ulp(x))
		if got.Cmp(steps(1, Split(x).Exp)) != 0 {
			t.Errorf("Ulp(%g): %g", x, Ulp(x))
		}
		if a := math.Abs(x); a < greatest && got.Cmp(new(big.Int).Sub(size(Next(a)), size(a))) != 0 {
			t.Errorf("Ulp(%g): %g, but the next greater is %g", x, Ulp(x), Next(a))
		}
	}
}

// P1.6: the whole order, each against each.
func TestOrderOfAll(t *testing.T) {
	row := []float64{inf(-1), -greatest, -0x1p1023, -3, -2, -1, -0x1p-1022, -0x1p-1022 + least, -2 * least, -least, minus(),
		0, least, 2 * least, 0x1p-1022 - least, 0x1p-1022, 1, 2, 3, 0x1p1023, greatest, inf(1), NaN()}
	for i, x := range row {
		for j, y := range row {
			want := 0
			if i < j {
				want = -1
			} else if i > j {
				want = 1
			}
			if got := Order(x, y); got != want {
				t.Errorf("Order(%g, %g): %d, want %d", x, y, got, want)
			}
		}
	}
}

// P1.6: NaN are all alike, and behind all others.
func TestOrderOfNaN(t *testing.T) {
	for _, x := range odds() {
		for _, y := range odds() {
			if Order(x, y) != 0 {
				t.Errorf("Order of NaN %x, %x: %d", hex(x), hex(y), Order(x, y))
			}
		}
		for _, y := range edges() {
			if Order(x, y) != 1 || Order(y, x) != -1 {
				t.Errorf("Order of NaN %x and %g: %d, %d", hex(x), y, Order(x, y), Order(y, x))
			}
		}
	}
}

// P1.11: turned round; 0 just if Same; x < y.
func TestOrderOfPairs(t *testing.T) {
	l := some()
	for _, x := range l {
		for _, y := range l {
			o := Order(x, y)
			if o != -Order(y, x) {
				t.Errorf("Order(%g, %g) is %d, turned %d", x, y, o, Order(y, x))
			}
			if (o == 0) != Same(x, y) {
				t.Errorf("Order(%x, %x) is %d, Same %v", hex(x), hex(y), o, Same(x, y))
			}
			if x < y && o != -1 {
				t.Errorf("Order(%g, %g) is %d", x, y, o)
			}
		}
	}
}

// P1.11: with a third one between.
func TestOrderOfThrees(t *testing.T) {
	l := some()
	for _, x := range l {
		for _, y := range l {
			for _, z := range l {
				if Order(x, y) <= 0 && Order(y, z) <= 0 && Order(x, z) != min(Order(x, y), Order(y, z)) {
					t.Errorf("%g, %g, %g: %d", x, y, z, Order(x, z))
				}
			}
		}
	}
}

// P1.11: what is sorted by Order rises, whatever way it came.
func TestOrderSorts(t *testing.T) {
	l := all()
	slices.SortFunc(l, Order)
	for i := 1; i < len(l); i++ {
		x, y := l[i-1], l[i]
		if x > y || x != x && y == y || x == 0 && y == 0 && !math.Signbit(x) && math.Signbit(y) {
			t.Errorf("%g ahead of %g", x, y)
		}
	}
}
