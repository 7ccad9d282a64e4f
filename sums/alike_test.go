package sums

import (
	"math"
	"testing"

	"steelyard/api"
	"steelyard/bins"
)

// noFolds are what no Bins have.
func noFolds() []int {
	return []int{0, -1, 9, 10, -8, 256, 257, 1 << 32, 1<<32 + 1, -1 << 32, math.MinInt, math.MaxInt}
}

// inBins is what layer 9 answers.
func inBins(t *testing.T, l []float64, fold int) float64 {
	t.Helper()
	b := bins.New(fold)
	for _, x := range l {
		if e := b.Add(x); e != api.OK {
			t.Errorf("Add(%x): error %d", x, e)
		}
	}
	x, e := b.Round(api.Even)
	if e != api.OK {
		t.Errorf("Round: error %d", e)
	}
	return x
}

// P10.7: a fold that is none, a list that is too long, a number that is not finite: the first of these is told.
func TestAlikeRefusesInOrder(t *testing.T) {
	long := often(longest+1, 1)
	odd := often(longest+1, 1)
	odd[0] = hole
	for _, fold := range noFolds() {
		for _, l := range [][]float64{nil, {1}, {hole}, {inf}, long, odd} {
			x, e := Alike(l, fold)
			refuses(t, "a fold that is none", x, e, api.ErrArg)
		}
	}
	for fold := 1; fold <= 8; fold++ {
		x, e := Alike(long, fold)
		refuses(t, "a list that is too long", x, e, api.ErrLong)
		x, e = Alike(odd, fold)
		refuses(t, "too long, and a NaN", x, e, api.ErrLong)
		x, e = Alike(odd[:longest], fold)
		refuses(t, "a NaN", x, e, api.ErrOdd)
		x, e = Alike(long[:longest], fold)
		answers(t, "MaxList numbers", x, e, longest, api.OK)
	}
}

// P10.7: one number that is not finite, wherever it stands among many.
func TestAlikeOfOdd(t *testing.T) {
	for _, x := range append(odds(), inf, -inf) {
		for n := 1; n < 12; n++ {
			for i := range n {
				l := often(n, 2.5)
				l[i] = x
				got, e := Alike(l, 1+n%8)
				refuses(t, "not finite", got, e, api.ErrOdd)
			}
		}
	}
	l := often(longest, 2.5)
	l[longest-1] = -inf
	x, e := Alike(l, 3)
	refuses(t, "the last one", x, e, api.ErrOdd)
	x, e = Alike([]float64{inf, -inf, hole}, 3)
	refuses(t, "all of them", x, e, api.ErrOdd)
}

// P10.7: what layer 9 answers, of every fold.
func TestAlikeIsByBins(t *testing.T) {
	d := dice(109)
	for fold := 1; fold <= 8; fold++ {
		x, e := Alike(nil, fold)
		answers(t, "none", x, e, 0, api.OK)
		x, e = Alike([]float64{noughtBelow, noughtBelow}, fold)
		answers(t, "-0 alone", x, e, 0, api.OK)
		x, e = Alike([]float64{1, -1}, fold)
		answers(t, "1, -1", x, e, 0, api.OK)
		for _, y := range edges() {
			x, e := Alike([]float64{y}, fold)
			answers(t, "one", x, e, inBins(t, []float64{y}, fold), api.OK)
		}
		for n := range 60 {
			l := d.list(n)
			x, e := Alike(l, fold)
			answers(t, "many", x, e, inBins(t, l, fold), api.OK)
		}
	}
}

// By hand: what lies below the kept bins counts for nothing; what is kept is rounded to the nearest, of two as near to the even one.
func TestAlikeByHand(t *testing.T) {
	for _, c := range []struct {
		l    []float64
		fold int
		is   float64
	}{
		{[]float64{1, 0x1p-33, 0x1p32 + 1}, 1, 0x1p32},
		{[]float64{1, 0x1p-33, 0x1p32 + 1}, 2, 0x1p32 + 2},
		{[]float64{1, 0x1p-33, 0x1p32 + 1}, 4, 0x1p32 + 2},
		{[]float64{1, 2, 3.5}, 1, 6},
		{[]float64{1, 2, 3.5}, 2, 6.5},
		{[]float64{0x1p53, 1}, 2, 0x1p53},
		{[]float64{0x1p53, 1, 1, 1}, 2, 0x1p53 + 4},
		{[]float64{0x1p53, 1, 0x1p-32}, 2, 0x1p53},
		{[]float64{0x1p53, 1, 0x1p-32}, 3, 0x1p53 + 2},
		{[]float64{-0x1p53, -1, -0x1p-32}, 3, -0x1p53 - 2},
		{[]float64{greatest, greatest, -greatest}, 3, greatest},
		{[]float64{greatest, greatest}, 3, inf},
		{[]float64{greatest, greatest, -greatest}, 1, 0x1.fffffffep1023},
		{[]float64{-least, -least}, 1, -2 * least},
	} {
		x, e := Alike(c.l, c.fold)
		answers(t, "by hand", x, e, c.is, api.OK)
	}
}
