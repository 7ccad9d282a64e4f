package bins

import (
	"math"
	"math/big"
	"testing"

	"steelyard/api"
)

// blankBound is count times 2^(32 low).
func blankBound(count, low int) *big.Float {
	v := big.NewFloat(float64(count))
	return v.SetMantExp(v, 32*low)
}

// P9.6: without a top +0, however many noughts there are.
func TestBoundNone(t *testing.T) {
	for fold := 1; fold <= folds; fold++ {
		for _, w := range []*twin{pairUp(t, fold), pairUp(t, fold, 0), pairUp(t, fold, noughtBelow), many(t, fold, most, noughtBelow)} {
			if x := w.b.Bound(); !sameBits(x, 0) {
				t.Errorf("%d noughts: Bound %x", w.b.Count(), x)
			}
		}
	}
}

// P9.6: by hand, with the lowest kept bin among the slices, below them all, and where Count has more bits than a number has there.
func TestBoundByHand(t *testing.T) {
	for _, c := range []struct {
		fold  int
		x     float64
		count int
		bound float64
	}{
		{1, 1, 1, 1},
		{1, -1, 3, 3},
		{2, 1, 3, 3 * 0x1p-32},
		{8, 1, 5, 5 * 0x1p-224},
		{1, 0x1p-1, 1, 0x1p-32},
		{1, 0x1p31, 7, 7},
		{1, 0x1p32, 7, 7 * 0x1p32},
		{1, 0x1p63, most, 0x1p72},
		{1, 3, most - 1, most - 1},
		// rounded up: the lowest bins begin below the least number
		{1, least, 1, least},
		{1, -least, 1 << 14, least},
		{1, least, 1<<14 + 1, 2 * least},
		{1, least, 1 << 15, 2 * least},
		{1, least, 3<<14 - 1, 3 * least},
		{1, least, most, 0x1p-1048},
		{1, least, most - 1, 0x1p-1048},
		{1, least, most - 1<<14, 0x1p-1048 - least},
		{1, least, most - 1<<14 - 1, 0x1p-1048 - least},
		{1, 0x1p-1056, 3, 3 * 0x1p-1056},
		{2, 0x1p-1056, 1<<14 + 1, 2 * least},
		{2, 0x1p-1056, most - 1, 0x1p-1048},
		// the lowest kept bin is below all slices
		{2, least, 1, least},
		{2, least, most, least},
		{8, least, 1, least},
		{8, least, most, least},
		{8, normal, most, least},
		{7, 0x1p-832, most - 1, 0x1p-984 - 0x1p-1024},
		{8, 0x1p-832, most - 1, 0x1p-1016 - 0x1p-1056},
		{8, 0x1p-864, most - 1, 0x1p-1048},
		// beyond the greatest
		{1, greatest, 1, 0x1p992},
		{1, greatest, 1<<32 - 1, 0x1p1024 - 0x1p992},
		{1, -0x1p992, 1 << 32, inf},
		{1, greatest, 1<<32 + 1, inf},
		{1, greatest, most, inf},
		{2, greatest, most, 0x1p1000},
		{1, 0x1p991, most, 0x1p1000},
	} {
		w := many(t, c.fold, c.count, c.x)
		if x := w.b.Bound(); !sameBits(x, c.bound) {
			t.Errorf("%d times %x in %d bins: Bound %x; want %x", c.count, c.x, c.fold, x, c.bound)
		}
	}
}

// P9.6: noughts and what lies below the kept bins count as much as others; the top stays when its numbers cancel.
func TestBoundCountsAll(t *testing.T) {
	w := pairUp(t, 1, 0x1p40, -0x1p40, 0, noughtBelow, 1, least)
	if x := w.b.Bound(); x != 6*0x1p32 {
		t.Errorf("Bound %x", x)
	}
	w.tells()
}

// P9.6: every fold and every top.
func TestBoundEach(t *testing.T) {
	for fold := 1; fold <= folds; fold++ {
		for j := lowest; j <= highest; j++ {
			for _, count := range []int{1, 2, 3, 1<<14 + 1, 1<<32 - 1, 1 << 32, most - 1, most} {
				w := many(t, fold, count-1, 0)
				w.add(math.Ldexp(1, 32*j+20))
				if x, is := w.b.Bound(), upward(blankBound(count, j-fold+1)); !sameBits(x, is) {
					t.Errorf("%d numbers, the top %d, %d bins: %x; want %x", count, j, fold, x, is)
				}
			}
		}
	}
}

// P9.4: Fold and Count are told, whatever was refused.
func TestFoldCount(t *testing.T) {
	for fold := 1; fold <= folds; fold++ {
		b := filled(fold, 1, 0, noughtBelow, inf, math.NaN(), -greatest, least, -inf)
		b.Round(7)
		want(t, "Merge", b.Merge(New(1+fold%folds)), api.ErrArg)
		if b.Fold() != fold || b.Count() != 5 {
			t.Errorf("Fold %d, Count %d", b.Fold(), b.Count())
		}
	}
}
