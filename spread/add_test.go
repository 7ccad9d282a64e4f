package spread

import (
	"math"
	"testing"

	"steelyard/api"
	"steelyard/dyad"
)

// P8.1: a new one has no numbers, and comes to nought.
func TestNew(t *testing.T) {
	w := pairUp(t)
	if l := w.s.Parts(); len(l) != 0 {
		t.Errorf("Parts of none: %v", l)
	}
	for mode := range 5 {
		if x, e := w.s.Round(mode); math.Float64bits(x) != 0 || e != api.OK {
			t.Errorf("none by %d: %v, error %d", mode, x, e)
		}
	}
	if New() == New() {
		t.Error("two new ones are the same one")
	}
}

// P8.1: NaN of whatever bits and infinities are refused; they leave all as it was, and don't count.
func TestAddRefusesOdd(t *testing.T) {
	for _, l := range [][]float64{nil, {0.1, 0.2, 1e300}, {1, -1}, {greatest, greatest}, {-least}} {
		w := pairUp(t, l...)
		for _, x := range endless() {
			want(t, "Add", w.add(x), api.ErrOdd)
		}
		w.tells()
	}
	w := pairUp(t)
	for range most + 1 {
		want(t, "Add", w.s.Add(inf), api.ErrOdd)
	}
	w.add(1)
	w.doubled(16)
}

// P8.1: noughts count, and come to +0.
func TestAddNoughts(t *testing.T) {
	w := pairUp(t)
	for i := range most {
		x := []float64{0, noughtBelow}[i%2]
		if w.s.Add(x) != api.OK || w.m.add(x) != api.OK {
			t.Fatalf("nought %d is refused", i)
		}
	}
	w.tells()
	want(t, "a nought more", w.add(0), api.ErrLong)
	want(t, "a nought more", w.add(noughtBelow), api.ErrLong)
	want(t, "a number more", w.add(1), api.ErrLong)
	s := of(noughtBelow)
	for mode := range 5 {
		if x, e := s.Round(mode); math.Float64bits(x) != 0 || e != api.OK {
			t.Errorf("-0 by %d: %v, error %d", mode, x, e)
		}
	}
}

// P8.1 to P8.3: of one number just that, by every mode.
func TestAddOne(t *testing.T) {
	for _, x := range edges() {
		w := pairUp(t, x)
		w.tells()
		if l := w.s.Parts(); !sameList(l, []float64{x}) {
			t.Errorf("Parts of %x: %x", x, l)
		}
		for mode := range 5 {
			if y, e := w.s.Round(mode); math.Float64bits(y) != math.Float64bits(x) || e != api.OK {
				t.Errorf("%x by %d: %x, error %d", x, mode, y, e)
			}
		}
		if d, _ := dyad.Of(x); !alike(w.s.Exact(), d) {
			t.Errorf("Exact of %x: %+v", x, w.s.Exact())
		}
	}
}

// P8.1: with MaxList numbers each more is refused as too many, also what is no number; all stays as it was.
func TestAddLong(t *testing.T) {
	for _, x := range []float64{noughtBelow, 1, -0.1, least, -greatest, 0x1p960} {
		w := many(t, most-1, x)
		want(t, "the last one", w.add(x), api.OK)
		for _, y := range append(endless(), append(edges(), 0, noughtBelow)...) {
			want(t, "one too many", w.add(y), api.ErrLong)
		}
	}
}

// P8.1: MaxList numbers, added one by one, at either end of all numbers: nothing is lost on the way.
func TestAddMany(t *testing.T) {
	for _, l := range [][]float64{
		{greatest}, {-greatest}, {least}, {-least}, {0x1.fffffffffffffp959}, {-0x1p960},
		{greatest, least}, {0.1, -0x1p-30, 1e17}, {greatest, greatest, -greatest, -0x1p970, 3 * least},
		{0x1.fffffffffffffp959, 0x1p960, -0x1p-1000, 0.1},
	} {
		w := &twin{t, New(), blank()}
		for i := range most {
			x := l[i%len(l)]
			if w.s.Add(x) != api.OK || w.m.add(x) != api.OK {
				t.Fatalf("number %d of %v is refused", i, l)
			}
		}
		w.tells()
		want(t, "one too many", w.add(1), api.ErrLong)
	}
}

// Every two edges, and what is left when one of them goes away again.
func TestAddEdges(t *testing.T) {
	for _, x := range edges() {
		for _, y := range edges() {
			w := pairUp(t, x, y, 0.1)
			want(t, "Add", w.add(-x), api.OK)
			want(t, "Add", w.add(-0.1), api.OK)
			if l := w.s.Parts(); !sameList(l, []float64{y}) {
				t.Errorf("%x is left as %x", y, l)
			}
		}
	}
}

// What is kept may be of one bit each, as close together as can be: 2^0, 2^2, 2^4, .. Each power is what is left of two numbers too great to hold the ones below it.
func TestAddScattered(t *testing.T) {
	w := pairUp(t, 1)
	for i := 2; i <= 400; i += 2 {
		veil := math.Ldexp(1, i+52)
		w.add(veil)
		w.add(math.Ldexp(1, i) - veil)
	}
	if len(w.s.usual) < 100 {
		t.Errorf("only %d numbers are kept", len(w.s.usual))
	}
	w.tells()
	w.doubled(3)
	w.tells()
	w.add(0.1)
	w.add(-1e300)
	w.tells()
}

// Many lists of numbers of all sizes, some of which cancel.
func TestAddLists(t *testing.T) {
	d := dice(81)
	for n := range 300 {
		w := pairUp(t)
		for _, x := range d.list(n % 60) {
			w.add(x)
		}
		w.tells()
	}
}
