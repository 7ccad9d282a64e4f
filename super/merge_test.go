package super

import (
	"slices"
	"testing"

	"steelyard/api"
)

// several has each sort once or more, and a value with words on either side of the point.
func several(t *testing.T) *twin {
	w := pairUp(t)
	for i, x := range []float64{hole, inf, -inf, noughtBelow, 0, -0.1} {
		for range i + 1 {
			w.add(x)
		}
	}
	w.addProduct(least, 3*least)
	w.addProduct(-greatest, 0x1p1000)
	return w
}

// P7.4: each count is more by the other's, the value by its value; the other one stays as it is.
func TestMerge(t *testing.T) {
	w, o := several(t), several(t)
	o.add(7)
	o.take(1e300)
	o.add(-inf)
	want(t, "Merge", w.merge(o), api.OK)
	if s := w.a.Specials(); s != (api.Specials{NaN: 2, Up: 4, Down: 7, Minus: 8, Plus: 10, All: 47}) {
		t.Errorf("merged: %+v", s)
	}
	before := w.m.same()
	want(t, "Merge with one that has none", w.merge(pairUp(t)), api.OK)
	has(t, "with one that has none", w.a, before)
	none := pairUp(t)
	want(t, "Merge into one that has none", none.merge(w), api.OK)
	has(t, "into one that has none", none.a, before)
	// From here on neither knows of the other.
	w.add(1)
	o.take(1)
	none.alike("what was merged into")
	o.alike("what was merged")
}

// P7.4: with itself all is twice what it was.
func TestMergeItself(t *testing.T) {
	w := several(t)
	want(t, "Merge with itself", w.merge(w), api.OK)
	if s := w.a.Specials(); s != (api.Specials{NaN: 2, Up: 4, Down: 6, Minus: 8, Plus: 10, All: 46}) {
		t.Errorf("twice: %+v", s)
	}
	want(t, "and again", w.merge(w), api.OK)
	none := pairUp(t)
	want(t, "none with itself", none.merge(none), api.OK)
	has(t, "none with itself", none.a, blank())
}

// P7.4: both All together at MaxCount are taken, above it refused, whatever they are counted as; both stay as they were.
func TestMergeCounts(t *testing.T) {
	sorts := []float64{hole, inf, -inf, noughtBelow, 0, 1}
	for _, x := range sorts {
		for _, y := range sorts {
			w, o := pairUp(t), pairUp(t)
			w.add(x)
			o.add(y)
			w.doubled(39)
			o.doubled(39)
			more := o.copy()
			more.add(x)
			want(t, "one above MaxCount", w.merge(more), api.ErrLong)
			want(t, "one above MaxCount", more.copy().merge(w), api.ErrLong)
			want(t, "one above MaxCount", more.merge(more), api.ErrLong)
			want(t, "at MaxCount", w.merge(o), api.OK)
			want(t, "full with full", w.merge(w), api.ErrLong)
			want(t, "full with one", w.merge(o), api.ErrLong)
			want(t, "full with none", w.merge(pairUp(t)), api.OK)
			least := pairUp(t)
			want(t, "none with full", least.merge(w), api.OK)
			want(t, "one with full", least.merge(w), api.ErrLong)
		}
	}
}

// P7.4: both values together at 2^2090, or less that, or past it are refused, just ahead of it taken; both stay as they were.
func TestMergeBounds(t *testing.T) {
	for _, sign := range []float64{1, -1} {
		half := empty(t, 2089, sign)
		want(t, "at the bound", half.merge(half), api.ErrLong)
		want(t, "at the bound", half.merge(half.copy()), api.ErrLong)
		w := brink(t, sign)
		want(t, "past the bound", w.merge(w), api.ErrLong)
		want(t, "past the bound", half.merge(w), api.ErrLong)
		unit, back := pairUp(t), pairUp(t)
		unit.addProduct(least, sign*least)
		back.addProduct(least, -sign*least)
		want(t, "at the bound", w.merge(unit), api.ErrLong)
		want(t, "at the bound", unit.copy().merge(w), api.ErrLong)
		want(t, "one unit back", w.merge(back), api.OK)
		want(t, "and on", w.merge(unit), api.OK)
		want(t, "and on", w.merge(unit), api.ErrLong)
		other := brink(t, -sign)
		want(t, "both brinks", w.merge(other), api.OK)
		if len(w.a.Exact().Mag) != 0 {
			t.Error("both brinks don't come to nought")
		}
		below := empty(t, 2089, sign)
		below.addProduct(least, sign*least)
		want(t, "a unit past the bound", below.merge(half), api.ErrLong)
	}
}

// Many of all kinds, merged with each other.
func TestManyMerges(t *testing.T) {
	d := dice(72)
	row := []*twin{pairUp(t), several(t), brink(t, 1), brink(t, -1), empty(t, 2089, 1), empty(t, 2089, -1), empty(t, 2070, 1), pairUp(t)}
	for range 600 {
		i, j := d.below(len(row)), d.below(len(row))
		row[i].merge(row[j])
		row[j].step(&d)
		if d.below(10) == 0 {
			row[i] = row[j].copy()
		}
	}
}

// P7.7: a copy and what it was copied from, changed one after the other.
func TestCopy(t *testing.T) {
	for _, w := range []*twin{pairUp(t), several(t), brink(t, -1)} {
		c := w.copy()
		if c.a == w.a {
			t.Fatal("Copy is the same one")
		}
		d := dice(73)
		for range 50 {
			w.step(&d)
			c.alike("the copy, after the other has changed")
			c.step(&d)
			w.alike("the other, after its copy has changed")
		}
		second := c.copy()
		c.merge(w)
		second.alike("a copy's copy")
		w.merge(second)
		c.alike("the copy")
	}
}

// spoil writes over a list and over its spare room.
func spoil(n api.Nat) {
	n = n[:cap(n)]
	for i := range n {
		n[i] = 0xABCDEF01
	}
}

// P7.5, R2: what Exact and Specials answer is their owner's.
func TestAnswersAreTheirOwners(t *testing.T) {
	w := several(t)
	one, two := w.a.Exact(), w.a.Exact()
	kept := slices.Clone(two.Mag)
	spoil(one.Mag)
	if !slices.Equal(two.Mag, kept) {
		t.Error("two answers share memory")
	}
	w.alike("after an answer was written over")
	spoil(two.Mag)
	w.copy().alike("a copy, after an answer was written over")
	s := w.a.Specials()
	s.NaN, s.All = 99, 999
	w.alike("after the counts were written over")
	before := w.a.Exact()
	kept = slices.Clone(before.Mag)
	w.addProduct(greatest, greatest)
	w.merge(w)
	if !slices.Equal(before.Mag, kept) {
		t.Error("an answer changes with the accumulator")
	}
}

// P7.5: Exact and Specials change nothing, and answer the same when asked again.
func TestAskedAgain(t *testing.T) {
	w := several(t)
	for range 3 {
		w.alike("asked again")
	}
}
