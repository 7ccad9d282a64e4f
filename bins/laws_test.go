package bins

import (
	"math"
	"math/big"
	"testing"

	"steelyard/api"
	"steelyard/dyad"
	"steelyard/super"
)

// told is all that Bins tell.
type told struct {
	kept   api.Dyad
	rounds [5]float64
	bound  float64
	count  int
	fold   int
}

func all(t *testing.T, b *Bins) told {
	t.Helper()
	l := told{kept: b.Kept(), bound: b.Bound(), count: b.Count(), fold: b.Fold()}
	for mode := range l.rounds {
		x, e := b.Round(mode)
		want(t, "Round", e, api.OK)
		l.rounds[mode] = x
	}
	return l
}

func (a told) same(b told) bool {
	for mode := range a.rounds {
		if !sameBits(a.rounds[mode], b.rounds[mode]) {
			return false
		}
	}
	return alike(a.kept, b.kept) && sameBits(a.bound, b.bound) && a.count == b.count && a.fold == b.fold
}

// In another order all that is told is the same.
func TestOrderIsNotSeen(t *testing.T) {
	d := dice(93)
	for n := range 100 {
		l, fold := d.list(n), d.fold()
		first := all(t, filled(fold, l...))
		for range 5 {
			d.shuffle(l)
			if !all(t, filled(fold, l...)).same(first) {
				t.Errorf("%x in another order come to something else", l)
			}
		}
	}
}

// All orders of a few numbers whose tops lie close together.
func TestAllOrders(t *testing.T) {
	l := []float64{0x1.8p0, -0x1.23456789abcdep33, 0x1p70, 0x1.fffffffffffffp-20, -0x1p32}
	for fold := 1; fold <= folds; fold++ {
		first := all(t, filled(fold, l...))
		var each func(n int)
		each = func(n int) {
			if n == len(l) && !all(t, filled(fold, l...)).same(first) {
				t.Errorf("%x in %d bins come to something else", l, fold)
			}
			for i := n; i < len(l); i++ {
				l[n], l[i] = l[i], l[n]
				each(n + 1)
				l[n], l[i] = l[i], l[n]
			}
		}
		each(0)
	}
}

// However numbers are shared out among Bins that are merged, all that is told is the same, and stays so with what is added then.
func TestSharesAreNotSeen(t *testing.T) {
	d := dice(94)
	for n := range 100 {
		l, fold := d.list(n), d.fold()
		first := filled(fold, l...)
		for range 5 {
			d.shuffle(l)
			shares := []*Bins{New(fold)}
			for _, x := range l {
				if d.below(3) == 0 {
					shares = append(shares, New(fold))
				}
				shares[d.below(len(shares))].Add(x)
			}
			for ; len(shares) > 1; shares = shares[:len(shares)-1] {
				want(t, "Merge", shares[d.below(len(shares)-1)].Merge(shares[len(shares)-1]), api.OK)
			}
			if !all(t, shares[0]).same(all(t, first)) {
				t.Errorf("%x in shares come to something else", l)
			}
			x := d.one()
			first.Add(x)
			shares[0].Add(x)
			l = append(l, x)
			if !all(t, shares[0]).same(all(t, first)) {
				t.Errorf("%x in shares, and %x, come to something else", l, x)
			}
		}
	}
}

// A number that was added n times is told as one that was merged so often.
func TestOften(t *testing.T) {
	for _, fold := range []int{1, 2, 8} {
		for _, x := range edges() {
			for _, n := range []int{1, 2, 3, 10, 255, 1000} {
				b := New(fold)
				for range n {
					b.Add(x)
				}
				if !all(t, b).same(all(t, many(t, fold, n, x).b)) {
					t.Errorf("%d times %x, added and merged, differ", n, x)
				}
			}
		}
	}
}

// The exact sum lies less than Bound from Kept, if there is a top; where nothing lies below the kept bins, Kept is the sum.
func TestBoundHolds(t *testing.T) {
	d := dice(95)
	lost := 0
	for n := range 2000 {
		w := pairUp(t, d.fold(), d.list(1+n%40)...)
		off := new(big.Int).Sub(w.m.sum(), w.m.kept())
		if off.Sign() != 0 {
			lost++
		}
		if w.m.any && real(off.Abs(off)).Cmp(real(exact(w.b.Bound()))) >= 0 {
			t.Errorf("%x off, Bound %x", off, w.b.Bound())
		}
	}
	if lost < 500 {
		t.Errorf("only %d sums have lost something", lost)
	}
}

// The Bound is close: of numbers whose slices below the kept bins are as great as can be nearly all of it is lost.
func TestBoundIsReached(t *testing.T) {
	w := pairUp(t, 1, 0x1.fffffffffffffp0)
	w.doubled(40)
	off := new(big.Int).Sub(w.m.sum(), w.m.kept())
	near := new(big.Int).Mul(inUnits(1-0x1p-52), big.NewInt(most))
	if off.Cmp(near) != 0 || w.b.Bound() != most {
		t.Errorf("%x off, Bound %x", off, w.b.Bound())
	}
}

// Where no number has a slice below the kept bins, Kept is the exact sum: that which the accumulator of layer 7 has.
func TestKeptIsTheSum(t *testing.T) {
	d := dice(96)
	for n := range 300 {
		b, acc := New(8), super.New()
		for range n {
			x := math.Ldexp(float64(d.below(1<<40))*0x1.8p12-0x1p52, d.below(150)-50)
			b.Add(x)
			acc.Add(x)
		}
		if !alike(b.Kept(), acc.Exact()) {
			t.Errorf("%d numbers: %+v; by words %+v", n, b.Kept(), acc.Exact())
		}
	}
}

// Round is chapter 3's of Kept; Up is never below Down; the two are the same, or neighbours.
func TestRoundIsOfKept(t *testing.T) {
	d := dice(97)
	for n := range 600 {
		b := filled(d.fold(), d.list(n%40)...)
		for mode := range 5 {
			is, _ := dyad.Round(b.Kept(), mode)
			if x, e := b.Round(mode); !sameBits(x, is) || e != api.OK {
				t.Errorf("Round(%d): %x, error %d; want %x", mode, x, e, is)
			}
		}
		up, _ := b.Round(api.Up)
		down, _ := b.Round(api.Down)
		if up < down || up != down && math.Nextafter(down, inf) != up {
			t.Errorf("%x up, %x down", up, down)
		}
	}
}

// A bin more keeps what fewer keep, and lies less than their Bound from it; its own Bound is not greater.
func TestMoreBins(t *testing.T) {
	d := dice(98)
	for n := range 200 {
		l := append(d.list(n%20), 1)
		for fold := 2; fold <= folds; fold++ {
			few, more := pairUp(t, fold-1, l...), pairUp(t, fold, l...)
			off := new(big.Int).Sub(few.m.kept(), more.m.kept())
			if off.CmpAbs(exact(few.b.Bound())) >= 0 || few.b.Bound() < more.b.Bound() {
				t.Errorf("%x: Bound of %d bins is %x, of one more %x, %x off", l, fold-1, few.b.Bound(), more.b.Bound(), off)
			}
		}
	}
}
