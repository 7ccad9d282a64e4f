package bins

import (
	"math"
	"testing"

	"steelyard/api"
)

// P9.1: from 1 to MaxFold bins, without any numbers; else nil.
func TestNew(t *testing.T) {
	for _, fold := range []int{0, -1, -8, 9, 10, 16, 64, 256, 1 << 32, 1<<32 + 1, math.MinInt, math.MaxInt} {
		if New(fold) != nil {
			t.Errorf("New(%d) is not nil", fold)
		}
	}
	for fold := 1; fold <= folds; fold++ {
		w := pairUp(t, fold)
		w.tells()
		tell(t, "New", w.b, 0, 0, 0)
		if w.b.Fold() != fold {
			t.Errorf("Fold of %d: %d", fold, w.b.Fold())
		}
		if New(fold) == New(fold) {
			t.Error("two new ones are the same one")
		}
	}
}

// P9.2: NaNs of whatever bits and infinities are refused; they leave all as it was, and don't count.
func TestAddRefusesOdd(t *testing.T) {
	for fold := 1; fold <= folds; fold++ {
		for _, l := range [][]float64{nil, {noughtBelow}, {0.1, 0.2, 1e300}, {1, -1}, {greatest, greatest}, {-least}} {
			w := pairUp(t, fold, l...)
			for _, x := range endless() {
				want(t, "Add", w.add(x), api.ErrOdd)
			}
			w.tells()
		}
	}
}

// P9.2: with MaxCount numbers each more is refused as too many, also what is no number; all stays as it was.
func TestAddLong(t *testing.T) {
	for _, fold := range []int{1, 3, 8} {
		for _, x := range []float64{noughtBelow, 1, -0.1, least, -greatest} {
			w := many(t, fold, most-1, x)
			want(t, "the last one", w.add(x), api.OK)
			for _, y := range append(endless(), append(edges(), 0, noughtBelow)...) {
				want(t, "one too many", w.add(y), api.ErrLong)
			}
			w.tells()
		}
	}
}

// P9.2: an odd one doesn't count: there is room for one number more.
func TestAddOddTakesNoRoom(t *testing.T) {
	w := many(t, 2, most-1, 1)
	for _, x := range endless() {
		want(t, "Add", w.add(x), api.ErrOdd)
	}
	want(t, "the last one", w.add(1), api.OK)
	want(t, "one too many", w.add(1), api.ErrLong)
}

// P9.2, P9.4: noughts count, and make no top; behind a number they make the Bound greater.
func TestAddNoughts(t *testing.T) {
	for fold := 1; fold <= folds; fold++ {
		b := New(fold)
		for i := range 100 {
			want(t, "Add", b.Add([]float64{0, noughtBelow}[i%2]), api.OK)
			tell(t, "noughts", b, 0, 0, i+1)
		}
		want(t, "Add", b.Add(0x1p-1000), api.OK)
		tell(t, "noughts and 2^-1000", b, 0x1p-1000, upward(blankBound(101, -32-fold+1)), 101)
		want(t, "Add", b.Add(noughtBelow), api.OK)
		tell(t, "one nought more", b, 0x1p-1000, upward(blankBound(102, -32-fold+1)), 102)
	}
}

// P9.2, P9.4: of one number just what its slices in the kept bins are: all of it from three bins on.
func TestAddOne(t *testing.T) {
	for fold := 1; fold <= folds; fold++ {
		for _, x := range edges() {
			w := pairUp(t, fold, x)
			w.tells()
			if d := w.b.Kept(); fold >= 3 && !alike(d, formed(inUnits(x))) {
				t.Errorf("%x in %d bins: {%t %x %d}", x, fold, d.Neg, d.Mag, d.Exp)
			}
		}
	}
}

// P9.2, P9.4: numbers with slices in one, two and three bins, and what one, two and three bins keep of them, by hand; turned, they are turned.
func TestSlicesByHand(t *testing.T) {
	for _, c := range []struct {
		x, one, two, three float64
	}{
		{1, 1, 1, 1},
		{0x1p32 - 1, 0x1p32 - 1, 0x1p32 - 1, 0x1p32 - 1},
		{0x1p32, 0x1p32, 0x1p32, 0x1p32},
		{0x1p32 + 1, 0x1p32, 0x1p32 + 1, 0x1p32 + 1},
		{1.5, 1, 1.5, 1.5},
		{1 + 0x1p-52, 1, 1, 1 + 0x1p-52},
		{0x1p20 + 0x1p-32, 0x1p20, 0x1p20 + 0x1p-32, 0x1p20 + 0x1p-32},
		{0x1p20 + 0.5 + 0x1p-32, 0x1p20, 0x1p20 + 0.5 + 0x1p-32, 0x1p20 + 0.5 + 0x1p-32},
		{0x1p19 + 0.5 + 0x1p-33, 0x1p19, 0x1p19 + 0.5, 0x1p19 + 0.5 + 0x1p-33},
		{0x1.fffffffffffffp0, 1, 2 - 0x1p-32, 0x1.fffffffffffffp0},
		{0x1.fffffffffffffp31, 0x1p32 - 1, 0x1.fffffffffffffp31, 0x1.fffffffffffffp31},
		{0x1.fffffffffffffp20, 0x1p21 - 1, 0x1.fffffffffffffp20, 0x1.fffffffffffffp20},
		{0x1.fffffffffffffp19, 0x1p20 - 1, 0x1p20 - 0x1p-32, 0x1.fffffffffffffp19},
		{0x1.fffffffffffffp-1, 0x1p0 - 0x1p-32, 0x1.fffffffffffffp-1, 0x1.fffffffffffffp-1},
		{greatest, 0x1p1024 - 0x1p992, greatest, greatest},
		{least, least, least, least},
		{0x1p-1056 + least, 0x1p-1056, 0x1p-1056 + least, 0x1p-1056 + least},
		{0x1p-1056 - least, 0x1p-1056 - least, 0x1p-1056 - least, 0x1p-1056 - least},
		{normal - least, normal - 0x1p-1024, normal - 0x1p-1056, normal - least},
		{normal + least, normal, normal, normal + least},
		{0x1p-1003 + 0x1p-1055, 0x1p-1003, 0x1p-1003 + 0x1p-1055, 0x1p-1003 + 0x1p-1055},
		{0x1p-1024 + least, 0x1p-1024, 0x1p-1024, 0x1p-1024 + least},
	} {
		for i, kept := range []float64{c.one, c.two, c.three, c.x} {
			for _, sign := range []float64{1, -1} {
				if d := filled(i+1, sign*c.x).Kept(); !alike(d, formed(inUnits(sign*kept))) {
					t.Errorf("%x in %d bins: {%t %x %d}; want %x", sign*c.x, i+1, d.Neg, d.Mag, d.Exp, sign*kept)
				}
			}
		}
	}
}

// P9.2: a power of two in each bin, at its lowest and at its highest bit, with all bits below it too: the top is where it is.
func TestAddEachPower(t *testing.T) {
	for e := -1074; e <= 1023; e++ {
		for _, x := range []float64{math.Ldexp(1, e), math.Nextafter(math.Ldexp(1, e), 0), math.Nextafter(-math.Ldexp(1, e), -inf)} {
			if x == 0 {
				continue
			}
			for _, fold := range []int{1, 2, 8} {
				pairUp(t, fold, x)
			}
		}
	}
}

// P9.2: tops that rise by none, by a few bins and by many, from every bin to every bin: what lies below the kept ones then is gone, and stays away.
func TestTopRises(t *testing.T) {
	for _, fold := range []int{1, 2, 3, 8} {
		for from := lowest; from <= highest; from += 1 + fold/2 {
			for to := from; to <= highest; to++ {
				x, y := math.Ldexp(0x1.8p0, 32*from+25), -math.Ldexp(0x1.4p0, 32*to+20)
				w := pairUp(t, fold, x, x, y)
				w.add(x)
				w.add(-y)
				w.add(x)
			}
		}
	}
}

// P9.2: bin by bin up, and bin by bin down again.
func TestTopClimbs(t *testing.T) {
	for fold := 1; fold <= folds; fold++ {
		up, down := pairUp(t, fold), pairUp(t, fold)
		for j := lowest; j <= highest; j++ {
			up.add(math.Ldexp(1, 32*j+20))
			down.add(-math.Ldexp(3, 32*(lowest+highest-j)+18))
		}
		up.tells()
		down.tells()
	}
}

// Every two edges, and what is left when one of them goes away again: the top stays.
func TestAddEdges(t *testing.T) {
	for _, fold := range []int{1, 3} {
		for _, x := range edges() {
			for _, y := range edges() {
				w := pairUp(t, fold, x, y)
				want(t, "Add", w.add(-x), api.OK)
			}
		}
	}
}

// Many lists of numbers of all sizes, some of which cancel.
func TestAddLists(t *testing.T) {
	d := dice(91)
	for n := range 400 {
		w := pairUp(t, d.fold())
		for _, x := range d.list(n % 40) {
			w.add(x)
		}
		w.tells()
	}
}
