package spread

import (
	"math"
	"slices"
	"testing"

	"steelyard/api"
)

// P8.3: sums and their parts, worked out by hand; those of the turned sum are turned.
func TestPartsByHand(t *testing.T) {
	below := math.Nextafter(greatest, 0)
	for _, c := range []struct{ l, is []float64 }{
		// nought
		{nil, nil},
		{[]float64{0, noughtBelow}, nil},
		{[]float64{1, -1}, nil},
		{[]float64{greatest, least, -greatest, -least}, nil},
		// what cancels
		{[]float64{1e16, 1, -1e16}, []float64{1}},
		{[]float64{1e300, 1, -1e300, least}, []float64{1, least}},
		{[]float64{0.1, 0.2, -0.3}, []float64{0x1p-55}},
		{[]float64{1, -0x1p-53, -1}, []float64{-0x1p-53}},
		// halves between neighbours: the even one, and what is left of either sign
		{[]float64{0x1p53, 1}, []float64{0x1p53, 1}},
		{[]float64{0x1p53 + 2, 1}, []float64{0x1p53 + 4, -1}},
		{[]float64{1, 0x1p-53}, []float64{1, 0x1p-53}},
		{[]float64{1 + 0x1p-52, 0x1p-53}, []float64{1 + 0x1p-51, -0x1p-53}},
		{[]float64{1, 0x1p-53, least}, []float64{1 + 0x1p-52, -0x1p-53, least}},
		{[]float64{1, 0x1p-53, -least}, []float64{1, 0x1p-53, -least}},
		{[]float64{1, -0x1p-54}, []float64{1, -0x1p-54}},
		{[]float64{1, 0x1p-53, 0x1p-106}, []float64{1 + 0x1p-52, -0x1p-53 + 0x1p-106}},
		{[]float64{0x1p200, 0x1p100, 1}, []float64{0x1p200, 0x1p100, 1}},
		// near the greatest, and beyond
		{[]float64{greatest, least}, []float64{greatest, least}},
		{[]float64{greatest, 0x1p970}, []float64{greatest, 0x1p970}},
		{[]float64{greatest, 0x1p970, -least}, []float64{greatest, 0x1p970, -least}},
		{[]float64{greatest, 0x1p969}, []float64{greatest, 0x1p969}},
		{[]float64{greatest, 0x1p971}, []float64{greatest, 0x1p971}},
		{[]float64{greatest, greatest}, []float64{greatest, greatest}},
		{[]float64{greatest, greatest, greatest, 1}, []float64{greatest, greatest, greatest, 1}},
		{[]float64{0x1p1023, 0x1p1023}, []float64{greatest, 0x1p971}},
		{[]float64{0x1p1023, 0x1p1023, -0x1p971}, []float64{greatest}},
		{[]float64{below, below}, []float64{greatest, 0x1.ffffffffffffdp1023}},
		{[]float64{greatest, 0x1p970, -1, greatest}, []float64{greatest, greatest, 0x1p970, -1}},
		{[]float64{1e308, 1e308, -1e308}, []float64{1e308}},
		{[]float64{greatest, greatest, -greatest, -greatest, 0.1}, []float64{0.1}},
		// the least small ones
		{[]float64{least}, []float64{least}},
		{[]float64{least, least, least}, []float64{3 * least}},
		{[]float64{normal, -least}, []float64{normal - least}},
		{[]float64{normal, least}, []float64{normal + least}},
		{[]float64{2 * normal, least}, []float64{2 * normal, least}},
		{[]float64{2 * normal, 3 * least}, []float64{2*normal + 4*least, -least}},
		{[]float64{greatest, -least}, []float64{greatest, -least}},
	} {
		for _, sign := range []float64{1, -1} {
			w, is := pairUp(t), []float64(nil)
			for _, x := range c.l {
				w.add(sign * x)
			}
			for _, x := range c.is {
				is = append(is, sign*x)
			}
			if l := w.s.Parts(); !sameList(l, is) {
				t.Errorf("%x, times %v: %x; want %x", c.l, sign, l, is)
			}
			w.tells()
		}
	}
}

// P8.3: as many parts as there can be.
func TestPartsMost(t *testing.T) {
	for _, sign := range []float64{1, -1} {
		w := many(t, most-1, sign*greatest)
		w.add(-sign * least)
		if l := w.s.Parts(); len(l) != most || l[0] != sign*greatest || l[most-2] != sign*greatest || l[most-1] != -sign*least {
			t.Errorf("%d parts", len(l))
		}
		w.tells()
	}
	// Numbers so far apart that no two of them fit into one.
	var l []float64
	for i := 1023; i >= -1074; i -= 55 {
		l = append(l, math.Ldexp(1, i))
	}
	if got := of(l...).Parts(); !sameList(got, l) {
		t.Errorf("far apart: %x", got)
	}
}

// spoilt writes over a list and over its spare room.
func spoilt[T float64 | uint32](l []T) {
	l = l[:cap(l)]
	for i := range l {
		l[i] = 7
	}
}

// P8.4, R2: what Parts and Exact answer is their owner's: written over, with its spare room, it changes no Spread and no other answer; nor does a later call change it.
func TestAnswersAreTheirOwners(t *testing.T) {
	for _, w := range starts(t) {
		parts, again, sum, sumAgain := w.s.Parts(), w.s.Parts(), w.s.Exact(), w.s.Exact()
		partsKept, sumKept := slices.Clone(again), slices.Clone(sumAgain.Mag)
		spoilt(parts)
		spoilt(sum.Mag)
		w.tells()
		later := pairUp(t)
		want(t, "Merge", later.merge(w), api.OK)
		w.add(0.7)
		w.add(-1e307)
		w.doubled(1)
		w.tells()
		spoilt(w.s.Parts())
		spoilt(w.s.Exact().Mag)
		if !sameList(again, partsKept) || !slices.Equal(sumAgain.Mag, sumKept) {
			t.Errorf("an answer has changed: %x, %x", again, sumAgain.Mag)
		}
		w.tells()
		later.tells()
	}
}

// P8.4: Spreads have nothing in common, though they were made one from another.
func TestNothingInCommon(t *testing.T) {
	d := dice(83)
	for range 50 {
		a := pairUp(t, d.list(10)...)
		b, c := pairUp(t), pairUp(t)
		b.merge(a)
		c.merge(b)
		for range 20 {
			for _, w := range []*twin{a, b, c} {
				w.add(d.one())
				a.alike("the first")
				b.alike("the second")
				c.alike("the third")
			}
		}
		b.doubled(2)
		a.tells()
		c.tells()
	}
}
