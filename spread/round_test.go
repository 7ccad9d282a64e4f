package spread

import (
	"math"
	"math/big"
	"testing"

	"steelyard/api"
)

// exact is a number's value in units; the infinities stand where the next power of two does.
func exact(x float64) *big.Int {
	if !finite(x) {
		top := new(big.Int).Lsh(big.NewInt(1), 1024+1074)
		return top.Mul(top, big.NewInt(int64(math.Copysign(1, x))))
	}
	return inUnits(x)
}

// between are the greatest number that is not above a value, and the least one that is not below it.
func between(units *big.Int) (low, high float64) {
	x, _ := real(units).Float64()
	if !finite(x) {
		in := math.Nextafter(x, 0)
		return min(x, in), max(x, in)
	}
	switch inUnits(x).Cmp(units) {
	case -1:
		return x, math.Nextafter(x, inf)
	case 1:
		return math.Nextafter(x, -inf), x
	}
	return x, x
}

// rounded is a value, rounded once, by DOC.md's words.
func rounded(units *big.Int, mode int) float64 {
	if units.Sign() == 0 {
		return 0
	}
	low, high := between(units)
	in, out := low, high
	if units.Sign() < 0 {
		in, out = high, low
	}
	switch mode {
	case api.Zero:
		return in
	case api.Up:
		return high
	case api.Down:
		return low
	case api.Even:
		x, _ := real(units).Float64()
		return x
	}
	twice := new(big.Int).Lsh(units, 1)
	middle := new(big.Int).Add(exact(in), exact(out))
	if twice.CmpAbs(middle) < 0 {
		return in
	}
	return out
}

func noModes() []int { return []int{-1, 5, 6, -5, 256, 1 << 32, -1 << 32, math.MinInt, math.MaxInt} }

// P8.2: what is no mode is refused, with +0 beside, whatever the sum; and nothing changes.
func TestRoundRefuses(t *testing.T) {
	for _, l := range [][]float64{nil, {noughtBelow}, {1, -1}, {0.1, 0.2}, {-least}, {greatest, greatest}} {
		w := pairUp(t, l...)
		for _, mode := range noModes() {
			if x, e := w.s.Round(mode); math.Float64bits(x) != 0 || e != api.ErrArg {
				t.Errorf("%v by %d: %v, error %d", l, mode, x, e)
			}
		}
		w.tells()
	}
}

// P8.2: sums and what they come to by Even, Zero, Up, Down, Away, worked out by hand.
func TestRoundByHand(t *testing.T) {
	for _, c := range []struct {
		l  []float64
		is [5]float64
	}{
		{nil, [5]float64{}},
		{[]float64{noughtBelow, noughtBelow}, [5]float64{}},
		{[]float64{1, -1}, [5]float64{}},
		{[]float64{greatest, -greatest}, [5]float64{}},
		{[]float64{0x1p53, 1}, [5]float64{0x1p53, 0x1p53, 0x1p53 + 2, 0x1p53, 0x1p53 + 2}},
		{[]float64{-1, -0x1p53}, [5]float64{-0x1p53, -0x1p53, -0x1p53, -0x1p53 - 2, -0x1p53 - 2}},
		{[]float64{0x1p53, 3}, [5]float64{0x1p53 + 4, 0x1p53 + 2, 0x1p53 + 4, 0x1p53 + 2, 0x1p53 + 4}},
		{[]float64{0x1p53, 1, least}, [5]float64{0x1p53 + 2, 0x1p53, 0x1p53 + 2, 0x1p53, 0x1p53 + 2}},
		{[]float64{0x1p53, 1, -least}, [5]float64{0x1p53, 0x1p53, 0x1p53 + 2, 0x1p53, 0x1p53}},
		{[]float64{1, least}, [5]float64{1, 1, 1 + 0x1p-52, 1, 1}},
		{[]float64{-1, least}, [5]float64{-1, -1 + 0x1p-53, -1 + 0x1p-53, -1, -1}},
		{[]float64{0.1, 0.2, 0.3}, [5]float64{0.6, 0.6, math.Nextafter(0.6, 1), 0.6, 0.6}},
		{[]float64{normal, -least}, [5]float64{normal - least, normal - least, normal - least, normal - least, normal - least}},
		{[]float64{2 * normal, least}, [5]float64{2 * normal, 2 * normal, 2*normal + 2*least, 2 * normal, 2*normal + 2*least}},
		{[]float64{greatest, least}, [5]float64{greatest, greatest, inf, greatest, greatest}},
		{[]float64{greatest, 0x1p970}, [5]float64{inf, greatest, inf, greatest, inf}},
		{[]float64{greatest, 0x1p970, -least}, [5]float64{greatest, greatest, inf, greatest, greatest}},
		{[]float64{-greatest, -0x1p970}, [5]float64{-inf, -greatest, -greatest, -inf, -inf}},
		{[]float64{-greatest, -0x1p970, least}, [5]float64{-greatest, -greatest, -greatest, -inf, -greatest}},
		{[]float64{greatest, greatest, greatest}, [5]float64{inf, greatest, inf, greatest, inf}},
		{[]float64{-greatest, -greatest}, [5]float64{-inf, -greatest, -greatest, -inf, -inf}},
		{[]float64{greatest, greatest, -greatest, least, -greatest}, [5]float64{least, least, least, least, least}},
	} {
		w := pairUp(t, c.l...)
		for mode, is := range c.is {
			if x, e := w.s.Round(mode); math.Float64bits(x) != math.Float64bits(is) || e != api.OK {
				t.Errorf("%v by %d: %x, error %d; want %x", c.l, mode, x, e, is)
			}
		}
		w.tells()
	}
}

// P8.2: each of two edges, and a third number that lies far below both, decides between modes.
func TestRoundEdges(t *testing.T) {
	for _, x := range edges() {
		for _, y := range edges() {
			pairUp(t, x, y).tells()
			pairUp(t, x, y, least).tells()
			pairUp(t, -least, x, y).tells()
		}
	}
}

// P8.2: Exact is the form of the sum, by hand.
func TestExactByHand(t *testing.T) {
	for _, c := range []struct {
		l  []float64
		is api.Dyad
	}{
		{nil, api.Dyad{}},
		{[]float64{noughtBelow}, api.Dyad{}},
		{[]float64{-0.5, 0.5}, api.Dyad{}},
		{[]float64{0.75}, api.Dyad{Mag: api.Nat{3}, Exp: -2}},
		{[]float64{-6}, api.Dyad{Neg: true, Mag: api.Nat{3}, Exp: 1}},
		{[]float64{0x1p53, 1}, api.Dyad{Mag: api.Nat{1, 1 << 21}}},
		{[]float64{-least}, api.Dyad{Neg: true, Mag: api.Nat{1}, Exp: -1074}},
		{[]float64{least, least}, api.Dyad{Mag: api.Nat{1}, Exp: -1073}},
		{[]float64{greatest}, api.Dyad{Mag: api.Nat{1<<32 - 1, 1<<21 - 1}, Exp: 971}},
		{[]float64{-greatest, -greatest}, api.Dyad{Neg: true, Mag: api.Nat{1<<32 - 1, 1<<21 - 1}, Exp: 972}},
		{[]float64{0x1p1023, 0x1p1023}, api.Dyad{Mag: api.Nat{1}, Exp: 1024}},
		{[]float64{0x1p960, 0x1p929}, api.Dyad{Mag: api.Nat{1<<31 | 1}, Exp: 929}},
	} {
		if d := of(c.l...).Exact(); !alike(d, c.is) {
			t.Errorf("%v: {%t %x %d}", c.l, d.Neg, d.Mag, d.Exp)
		}
	}
	// All bits of all numbers: 2^1023 + 2^-1074 is 2^-1074 times (2^2097 + 1), and 2097 is 65 words and 17 bits.
	mag := make(api.Nat, 66)
	mag[0], mag[65] = 1, 1<<17
	if d := of(0x1p1023, least).Exact(); !alike(d, api.Dyad{Mag: mag, Exp: -1074}) {
		t.Errorf("the widest: {%t %x %d}", d.Neg, d.Mag, d.Exp)
	}
}
