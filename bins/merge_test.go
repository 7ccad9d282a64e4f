package bins

import (
	"testing"

	"steelyard/api"
)

// starts are Bins of one fold and of many kinds: of no numbers, of noughts, of low and of high tops, of few numbers and of many.
func starts(t *testing.T, fold int) []*twin {
	return []*twin{
		pairUp(t, fold),
		pairUp(t, fold, noughtBelow, 0, 0),
		pairUp(t, fold, 1, -1),
		pairUp(t, fold, least, -3*least),
		pairUp(t, fold, 0x1p32+1, 0.5, 0x1p-40),
		pairUp(t, fold, -0x1p100, 0.1, 0x1p-140),
		pairUp(t, fold, 1e300, 1, -1e-300),
		pairUp(t, fold, greatest, greatest, 0x1p900, 0.1),
		pairUp(t, fold, -greatest, -0x1p970, 0x1.fffffffffffffp799, -least),
		many(t, fold, 1000, -0x1.fffffffffffffp10),
		many(t, fold, 1<<36-3, 0x1.fffffffffffffp31),
	}
}

// P9.3: all of the other one's numbers are added; the other one stays as it is, and from then on neither knows of the other.
func TestMerge(t *testing.T) {
	for _, fold := range []int{1, 2, 5, 8} {
		kinds := len(starts(t, fold))
		for i := range kinds {
			for j := range kinds {
				w, o := starts(t, fold)[i], starts(t, fold)[j]
				want(t, "Merge", w.merge(o), api.OK)
				want(t, "Merge again", w.merge(o), api.OK)
				w.tells()
				o.add(0x1p-500)
				o.add(0x1p30)
				o.add(0x1p1000)
				w.alike("what was merged into, after the other has changed")
				w.add(-0x1p-600)
				w.add(-0x1p35)
				w.add(-0x1p1001)
				o.alike("what was merged, after the other has changed")
				o.tells()
			}
		}
	}
}

// P9.3: unlike folds are refused, ahead of too many numbers, whatever they have, and both stay as they are; with numbers of none, too.
func TestMergeRefusesUnlikeFolds(t *testing.T) {
	for a := 1; a <= folds; a++ {
		for b := 1; b <= folds; b++ {
			if a == b {
				continue
			}
			for _, n := range []int{0, 1, most} {
				for _, m := range []int{0, 1, most} {
					w, o := many(t, a, n, 0.1), many(t, b, m, -0x1p70)
					want(t, "unlike folds", w.merge(o), api.ErrArg)
					want(t, "unlike folds", o.merge(w), api.ErrArg)
				}
			}
		}
	}
}

// P9.3: one of no numbers changes nothing, at MaxCount too; merged into, it has just the other's.
func TestMergeNone(t *testing.T) {
	for fold := 1; fold <= folds; fold++ {
		for _, w := range append(starts(t, fold), many(t, fold, most, -0.1)) {
			before := w.m.same()
			none := pairUp(t, fold)
			want(t, "with none", w.merge(none), api.OK)
			has(t, "with none", w.b, before)
			has(t, "the none", none.b, blank(fold))
			want(t, "into none", none.merge(w), api.OK)
			has(t, "into none", none.b, before)
			none.tells()
		}
		none := pairUp(t, fold)
		none.doubled(50)
		has(t, "none with itself", none.b, blank(fold))
	}
}

// P9.3: noughts count, and make no top, whichever of the two has them.
func TestMergeNoughts(t *testing.T) {
	for fold := 1; fold <= folds; fold++ {
		a, b := pairUp(t, fold, noughtBelow, 0), pairUp(t, fold, 0)
		want(t, "Merge", a.merge(b), api.OK)
		tell(t, "noughts", a.b, 0, 0, 3)
		c := pairUp(t, fold, least)
		want(t, "Merge", a.merge(c), api.OK)
		tell(t, "noughts and the least", a.b, least, least, 4)
		want(t, "Merge", c.merge(b), api.OK)
		tell(t, "the least and a nought", c.b, least, least, 2)
		want(t, "Merge", b.merge(b), api.OK)
		tell(t, "a nought twice", b.b, 0, 0, 2)
	}
}

// P9.3: of a lower and of a higher top, by hand: what lies below the kept bins of the higher one counts for nothing, on either side.
func TestMergeTops(t *testing.T) {
	for _, c := range []struct {
		fold   int
		a, b   []float64
		is     float64
		bound  float64
		number int
	}{
		{1, []float64{1}, []float64{0x1p32 + 1}, 0x1p32, 2 * 0x1p32, 2},
		{2, []float64{1}, []float64{0x1p32 + 1}, 0x1p32 + 2, 2, 2},
		{2, []float64{1.5}, []float64{0x1p32 + 1}, 0x1p32 + 2, 2, 2},
		{3, []float64{1.5}, []float64{0x1p32 + 1}, 0x1p32 + 2.5, 2 * 0x1p-32, 2},
		{2, []float64{1, -1, 0x1p-32}, []float64{0x1p-32}, 0x1p-31, 4 * 0x1p-32, 4},
		{2, []float64{1, -1}, []float64{0x1p-64}, 0, 3 * 0x1p-32, 3},
		{8, []float64{0x1p20, 0x1p-192}, []float64{0x1p64}, 0x1p64 + 0x1p20, 3 * 0x1p-160, 3},
		{1, []float64{least}, []float64{greatest}, 0x1p1024 - 0x1p992, 2 * 0x1p992, 2},
		{8, []float64{0x1p767}, []float64{-0x1p1023}, -0x1p1023, 2 * 0x1p768, 2},
		{8, []float64{0x1p768}, []float64{0x1p992, -0x1p992}, 0x1p768, 3 * 0x1p768, 3},
	} {
		for _, swap := range []bool{false, true} {
			a, b := filled(c.fold, c.a...), filled(c.fold, c.b...)
			if swap {
				a, b = b, a
			}
			want(t, "Merge", a.Merge(b), api.OK)
			tell(t, "merged", a, c.is, c.bound, c.number)
		}
	}
}

// P9.3: with itself all numbers are added once more, up to MaxCount.
func TestMergeItself(t *testing.T) {
	for fold := 1; fold <= folds; fold++ {
		for _, w := range starts(t, fold) {
			w.doubled(1)
			w.tells()
		}
		for _, l := range [][]float64{{0.1}, {-1}, {1e16, -1e-16}, {0x1p-30, 1, 0x1p70}, {-greatest, -greatest, 0x1p800, least}} {
			w := pairUp(t, fold, l...)
			for w.m.count*2 <= most {
				w.doubled(1)
			}
			w.tells()
			want(t, "above MaxCount", w.merge(w), api.ErrLong)
			w.tells()
		}
	}
}

// P9.3: both together at MaxCount are taken, above it refused, whatever the numbers are; both stay as they were then.
func TestMergeLong(t *testing.T) {
	for _, fold := range []int{1, 4, 8} {
		for _, x := range []float64{noughtBelow, 0.1, -least, greatest} {
			for _, n := range []int{0, 1, 2, 1000, most / 2, most/2 + 1, most - 1, most} {
				w, o := many(t, fold, n, x), many(t, fold, most-n, -x)
				more := many(t, fold, most-n, -x)
				if n > 0 {
					want(t, "the one above", more.add(1), api.OK)
					want(t, "one above MaxCount", w.merge(more), api.ErrLong)
					want(t, "one above MaxCount", more.merge(w), api.ErrLong)
				}
				want(t, "at MaxCount", w.merge(o), api.OK)
				want(t, "full with none", w.merge(pairUp(t, fold)), api.OK)
				want(t, "full with a nought", w.merge(pairUp(t, fold, 0)), api.ErrLong)
				want(t, "a nought with full", pairUp(t, fold, 0).merge(w), api.ErrLong)
				want(t, "full with itself", w.merge(w), api.ErrLong)
				want(t, "one more", w.add(x), api.ErrLong)
			}
		}
	}
	w := many(t, 1, most/2+1, 1)
	want(t, "one above MaxCount with itself", w.merge(w), api.ErrLong)
}

// Many of all kinds, merged with each other.
func TestManyMerges(t *testing.T) {
	d := dice(92)
	for fold := 1; fold <= folds; fold++ {
		group := starts(t, fold)
		refused := 0
		for range 500 {
			i, j := d.below(len(group)), d.below(len(group))
			if group[i].merge(group[j]) == api.ErrLong {
				refused++
				group[i] = pairUp(t, fold)
			}
			for _, x := range d.list(d.below(5)) {
				group[j].add(x)
			}
		}
		for _, w := range group {
			w.tells()
		}
		if refused < 20 {
			t.Errorf("only %d merges were refused", refused)
		}
	}
}
