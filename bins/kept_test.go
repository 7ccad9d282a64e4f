package bins

import (
	"math"
	"math/big"
	"testing"

	"steelyard/api"
)

// P9.4: sums of bins, by hand, as forms of chapter 3.
func TestKeptByHand(t *testing.T) {
	for _, c := range []struct {
		fold int
		l    []float64
		is   api.Dyad
	}{
		{1, nil, api.Dyad{}},
		{8, []float64{noughtBelow, 0}, api.Dyad{}},
		{1, []float64{-0.5, 0.5}, api.Dyad{}},
		{3, []float64{greatest, -greatest}, api.Dyad{}},
		{2, []float64{0.75}, api.Dyad{Mag: api.Nat{3}, Exp: -2}},
		{2, []float64{-6}, api.Dyad{Neg: true, Mag: api.Nat{3}, Exp: 1}},
		{2, []float64{-1.5, 1}, api.Dyad{Neg: true, Mag: api.Nat{1}, Exp: -1}},
		{2, []float64{0x1p32, -1}, api.Dyad{Mag: api.Nat{1<<32 - 1}}},
		{2, []float64{-0x1p32, 1}, api.Dyad{Neg: true, Mag: api.Nat{1<<32 - 1}}},
		{1, []float64{0x1p32, -1}, api.Dyad{Mag: api.Nat{1}, Exp: 32}},
		{1, []float64{0x1p31, 0x1p31}, api.Dyad{Mag: api.Nat{1}, Exp: 32}},
		{2, []float64{0x1p32 - 1, 1, 0.5}, api.Dyad{Mag: api.Nat{1, 2}, Exp: -1}},
		{1, []float64{-1.5, -1.5}, api.Dyad{Neg: true, Mag: api.Nat{1}, Exp: 1}},
		{8, []float64{0x1p224, 1}, api.Dyad{Mag: api.Nat{1, 0, 0, 0, 0, 0, 0, 1}}},
		{8, []float64{0x1p224, 1, 0.5}, api.Dyad{Mag: api.Nat{1, 0, 0, 0, 0, 0, 0, 1}}},
		{7, []float64{0x1p224, 1}, api.Dyad{Mag: api.Nat{1}, Exp: 224}},
		{8, []float64{0x1p224, 1, -0x1p224}, api.Dyad{Mag: api.Nat{1}}},
		{1, []float64{-least}, api.Dyad{Neg: true, Mag: api.Nat{1}, Exp: -1074}},
		{2, []float64{-greatest, -greatest}, api.Dyad{Neg: true, Mag: api.Nat{1<<32 - 1, 1<<21 - 1}, Exp: 972}},
		{1, []float64{greatest, greatest}, api.Dyad{Mag: api.Nat{1<<32 - 1}, Exp: 993}},
	} {
		if d := filled(c.fold, c.l...).Kept(); !alike(d, c.is) {
			t.Errorf("%v in %d bins: {%t %x %d}", c.l, c.fold, d.Neg, d.Mag, d.Exp)
		}
	}
}

// P9.4: a bin holds its slices whole: 2^40 of 2^32 - 1 are more than 64 bits, on either side of nought, and cancel just so.
func TestKeptPastAWord(t *testing.T) {
	for _, j := range []int{lowest, -2, 0, 1, highest} {
		all := math.Ldexp(1<<32-1, 32*j)
		if j == lowest {
			all = 0x1p-1056 - least
		}
		for _, sign := range []float64{1, -1} {
			for _, fold := range []int{1, 8} {
				for _, n := range []int{1<<31 + 1, 1 << 32, 1<<33 + 5, most - 1, most} {
					w := many(t, fold, n, sign*all)
					w.tells()
				}
				w := many(t, fold, most/2, sign*all)
				want(t, "Merge", w.merge(many(t, fold, most/2-1, -sign*all)), api.OK)
				if d := w.b.Kept(); !alike(d, formed(inUnits(sign*all))) {
					t.Errorf("all but one have cancelled: {%t %x %d}", d.Neg, d.Mag, d.Exp)
				}
				want(t, "Add", w.add(-sign*all), api.OK)
				tell(t, "all have cancelled", w.b, 0, upward(w.m.bound()), most)
			}
		}
	}
	// (2^32 - 1) times 2^40: 72 bits, the lowest of them the 40th.
	if d := many(t, 1, most, 0x1p32-1).b.Kept(); !alike(d, api.Dyad{Mag: api.Nat{1<<32 - 1}, Exp: 40}) {
		t.Errorf("2^40 times 2^32 - 1: {%t %x %d}", d.Neg, d.Mag, d.Exp)
	}
	// (2^32 - 1) times (2^40 - 1) is 2^72 - 2^40 - 2^32 + 1.
	if d := many(t, 1, most-1, 0x1p32-1).b.Kept(); !alike(d, api.Dyad{Mag: api.Nat{1, 1<<32 - 1 - 1<<8, 1<<8 - 1}}) {
		t.Errorf("2^40 - 1 times 2^32 - 1: {%t %x %d}", d.Neg, d.Mag, d.Exp)
	}
}

// P9.4: what a lower bin gathers beyond 32 bits stands in it: it goes with it, when the top rises.
func TestKeptCarriesNothing(t *testing.T) {
	for _, fold := range []int{1, 2, 3} {
		// The ones come to 2^36, which is more than one of the bin above; all are below the kept bins of 2^(32 fold).
		w := many(t, fold, 1<<36, 1)
		top := math.Ldexp(1, 32*fold)
		want(t, "Add", w.add(top), api.OK)
		if d := w.b.Kept(); !alike(d, formed(inUnits(top))) {
			t.Errorf("in %d bins: {%t %x %d}", fold, d.Neg, d.Mag, d.Exp)
		}
		w.add(-0x1p31)
		w.tells()
	}
}

// P9.4: numbers below the kept bins count for nothing, whether they come ahead of the top or behind it; at the lowest kept bin they count.
func TestKeptBelow(t *testing.T) {
	for fold := 1; fold <= folds; fold++ {
		top := 0x1p10
		last := math.Ldexp(1, -32*(fold-1))
		below := math.Nextafter(last, 0)
		sum := formed(new(big.Int).Add(inUnits(top), inUnits(last)))
		for _, l := range [][]float64{{top, last, below}, {below, top, last}, {last, below, top}, {below, last, top}} {
			if d := filled(fold, l...).Kept(); !alike(d, sum) {
				t.Errorf("%x in %d bins: {%t %x %d}", l, fold, d.Neg, d.Mag, d.Exp)
			}
			w := pairUp(t, fold, l...)
			for range 50 {
				w.add(-below)
				w.add(least)
			}
			if d := w.b.Kept(); !alike(d, sum) {
				t.Errorf("%x in %d bins, and more below: {%t %x %d}", l, fold, d.Neg, d.Mag, d.Exp)
			}
		}
	}
}

// R2: what Kept answers is its owner's: written over, its spare room too, it changes nothing; nor does a later call change it.
func TestKeptIsItsOwners(t *testing.T) {
	for _, l := range [][]float64{{1}, {0.1, 0x1p100, -0x1p140}, {-greatest, 0x1p800}, {1, -1}, nil} {
		for fold := 1; fold <= folds; fold++ {
			w := pairUp(t, fold, l...)
			first, second := w.b.Kept(), w.b.Kept()
			for mag, i := first.Mag[:cap(first.Mag)], 0; i < len(mag); i++ {
				mag[i] = 0xDEADBEEF
			}
			if !alike(second, formed(w.m.kept())) {
				t.Errorf("%v: two answers share memory", l)
			}
			w.tells()
			before := formed(w.m.kept())
			w.add(3)
			w.add(-0x1p1000)
			w.doubled(2)
			if !alike(second, before) {
				t.Errorf("%v: a later call has changed an answer", l)
			}
		}
	}
}
