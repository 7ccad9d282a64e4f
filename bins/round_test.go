package bins

import (
	"math"
	"math/big"
	"testing"

	"steelyard/api"
)

// exact is a number's value in units; the infinities stand where the next power of two does.
func exact(x float64) *big.Int {
	if !finite(x) {
		top := new(big.Int).Lsh(big.NewInt(1), 1024-units)
		return top.Mul(top, big.NewInt(int64(math.Copysign(1, x))))
	}
	return inUnits(x)
}

// between are the greatest number that is not above a value, and the least one that is not below it.
func between(n *big.Int) (low, high float64) {
	x, _ := real(n).Float64()
	if !finite(x) {
		in := math.Nextafter(x, 0)
		return min(x, in), max(x, in)
	}
	switch inUnits(x).Cmp(n) {
	case -1:
		return x, math.Nextafter(x, inf)
	case 1:
		return math.Nextafter(x, -inf), x
	}
	return x, x
}

// rounded is a value, rounded once, by DOC.md's words.
func rounded(n *big.Int, mode int) float64 {
	if n.Sign() == 0 {
		return 0
	}
	low, high := between(n)
	in, out := low, high
	if n.Sign() < 0 {
		in, out = high, low
	}
	switch mode {
	case api.Zero:
		return in
	case api.Up:
		return high
	case api.Down:
		return low
	case api.Even:
		x, _ := real(n).Float64()
		return x
	}
	twice := new(big.Int).Lsh(n, 1)
	middle := new(big.Int).Add(exact(in), exact(out))
	if twice.CmpAbs(middle) < 0 {
		return in
	}
	return out
}

func noModes() []int { return []int{-1, 5, 6, -5, 256, 1 << 32, -1 << 32, math.MinInt, math.MaxInt} }

// P9.5: what is no mode is refused, with +0 beside, whatever is kept; and nothing changes.
func TestRoundRefuses(t *testing.T) {
	for fold := 1; fold <= folds; fold++ {
		for _, l := range [][]float64{nil, {noughtBelow}, {1, -1}, {0.1, 0.2}, {-least}, {greatest, greatest}} {
			w := pairUp(t, fold, l...)
			for _, mode := range noModes() {
				if x, e := w.b.Round(mode); !sameBits(x, 0) || e != api.ErrArg {
					t.Errorf("%v by %d: %v, error %d", l, mode, x, e)
				}
			}
			w.tells()
		}
	}
}

// P9.5: what is kept, and what it comes to by Even, Zero, Up, Down, Away, worked out by hand.
func TestRoundByHand(t *testing.T) {
	tops := 0x1p1024 - 0x1p992
	for _, c := range []struct {
		fold int
		l    []float64
		is   [5]float64
	}{
		// nought is +0
		{1, nil, [5]float64{}},
		{8, []float64{noughtBelow, noughtBelow}, [5]float64{}},
		{2, []float64{1, -1}, [5]float64{}},
		{1, []float64{greatest, -greatest}, [5]float64{}},
		{1, []float64{-0x1p32, 0x1p32, -1}, [5]float64{}},
		// between two neighbours
		{2, []float64{0x1p53, 1}, [5]float64{0x1p53, 0x1p53, 0x1p53 + 2, 0x1p53, 0x1p53 + 2}},
		{2, []float64{-1, -0x1p53}, [5]float64{-0x1p53, -0x1p53, -0x1p53, -0x1p53 - 2, -0x1p53 - 2}},
		{2, []float64{0x1p53, 3}, [5]float64{0x1p53 + 4, 0x1p53 + 2, 0x1p53 + 4, 0x1p53 + 2, 0x1p53 + 4}},
		{4, []float64{1, 0x1p-90}, [5]float64{1, 1, 1 + 0x1p-52, 1, 1}},
		{4, []float64{-1, 0x1p-90}, [5]float64{-1, -1 + 0x1p-53, -1 + 0x1p-53, -1, -1}},
		{4, []float64{0.1, 0.2, 0.3}, [5]float64{0.6, 0.6, math.Nextafter(0.6, 1), 0.6, 0.6}},
		// rounded once: what lies in the lowest kept bin decides; below it nothing does
		{3, []float64{0x1p53, 1, 0x1p-20}, [5]float64{0x1p53 + 2, 0x1p53, 0x1p53 + 2, 0x1p53, 0x1p53 + 2}},
		{3, []float64{0x1p53, 1, -0x1p-20}, [5]float64{0x1p53, 0x1p53, 0x1p53 + 2, 0x1p53, 0x1p53}},
		{2, []float64{0x1p53, 1, 0x1p-20}, [5]float64{0x1p53, 0x1p53, 0x1p53 + 2, 0x1p53, 0x1p53 + 2}},
		{2, []float64{0x1p53, 1, -0x1p-20}, [5]float64{0x1p53, 0x1p53, 0x1p53 + 2, 0x1p53, 0x1p53 + 2}},
		{1, []float64{0x1p53, 1}, [5]float64{0x1p53, 0x1p53, 0x1p53, 0x1p53, 0x1p53}},
		{8, []float64{0x1p200, 0x1p147, 0x1p-24}, [5]float64{0x1p200 + 0x1p148, 0x1p200, 0x1p200 + 0x1p148, 0x1p200, 0x1p200 + 0x1p148}},
		{7, []float64{0x1p200, 0x1p147, 0x1p-24}, [5]float64{0x1p200, 0x1p200, 0x1p200 + 0x1p148, 0x1p200, 0x1p200 + 0x1p148}},
		// small ones
		{3, []float64{normal, -least}, [5]float64{normal - least, normal - least, normal - least, normal - least, normal - least}},
		{3, []float64{2 * normal, least}, [5]float64{2 * normal, 2 * normal, 2*normal + 2*least, 2 * normal, 2*normal + 2*least}},
		{1, []float64{-least}, [5]float64{-least, -least, -least, -least, -least}},
		// beyond the greatest
		{1, []float64{greatest}, [5]float64{tops, tops, tops, tops, tops}},
		{1, []float64{greatest, greatest}, [5]float64{inf, greatest, inf, greatest, inf}},
		{1, []float64{-greatest, -greatest}, [5]float64{-inf, -greatest, -greatest, -inf, -inf}},
		{2, []float64{greatest, 0x1p970}, [5]float64{inf, greatest, inf, greatest, inf}},
		{2, []float64{greatest, 0x1p970, -0x1p960}, [5]float64{greatest, greatest, inf, greatest, greatest}},
		{2, []float64{greatest, 0x1p960}, [5]float64{greatest, greatest, inf, greatest, greatest}},
		{2, []float64{-greatest, -0x1p970, 0x1p960}, [5]float64{-greatest, -greatest, -greatest, -inf, -greatest}},
		{2, []float64{greatest, 0x1p959}, [5]float64{greatest, greatest, greatest, greatest, greatest}},
		{8, []float64{greatest, greatest, -greatest, -greatest, -0x1p768}, [5]float64{-0x1p768, -0x1p768, -0x1p768, -0x1p768, -0x1p768}},
		{1, []float64{0x1p1023, 0x1p1023, -0x1p992}, [5]float64{tops, tops, tops, tops, tops}},
	} {
		w := pairUp(t, c.fold, c.l...)
		for mode, is := range c.is {
			if x, e := w.b.Round(mode); !sameBits(x, is) || e != api.OK {
				t.Errorf("%x in %d bins by %d: %x, error %d; want %x", c.l, c.fold, mode, x, e, is)
			}
		}
		w.tells()
	}
}

// P9.5: each of two edges, with a third number that decides between modes where it is kept.
func TestRoundEdges(t *testing.T) {
	for _, fold := range []int{2, 8} {
		for _, x := range edges() {
			for _, y := range edges() {
				pairUp(t, fold, x, y).tells()
				pairUp(t, fold, -x*0x1p-60, x, y).tells()
			}
		}
	}
}
