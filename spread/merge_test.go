package spread

import (
	"testing"

	"steelyard/api"
)

// starts are Spreads of many kinds.
func starts(t *testing.T) []*twin {
	return []*twin{
		pairUp(t),
		pairUp(t, noughtBelow, 0, 0),
		pairUp(t, 1, -1),
		pairUp(t, 1e300, 1, -1e-300),
		pairUp(t, -1e300, 1e-300, least),
		pairUp(t, greatest, greatest, 0.1),
		pairUp(t, -greatest, -0x1p970, -least),
		pairUp(t, 0x1.fffffffffffffp959, 0x1p960, -0x1p900),
		many(t, 1000, 0.1),
		many(t, 1500, -greatest),
	}
}

// P8.1: all of the other one's is in the sum and in the count; the other one stays as it is, and from then on neither knows of the other.
func TestMerge(t *testing.T) {
	for i := range starts(t) {
		for j := range starts(t) {
			w, o := starts(t)[i], starts(t)[j]
			want(t, "Merge", w.merge(o), api.OK)
			want(t, "Merge again", w.merge(o), api.OK)
			w.tells()
			o.add(0x1p-500)
			o.add(0x1p1000)
			w.alike("what was merged into, after the other has changed")
			w.add(-0x1p-600)
			w.add(-0x1p1001)
			o.alike("what was merged, after the other has changed")
			o.tells()
		}
	}
}

// P8.1: one of no numbers changes nothing, at MaxList too; merged into, it has just the other's.
func TestMergeNone(t *testing.T) {
	for _, w := range append(starts(t), many(t, most, -0.1)) {
		before := w.m.same()
		none := pairUp(t)
		want(t, "with none", w.merge(none), api.OK)
		has(t, "with none", w.s, before)
		has(t, "the none", none.s, blank())
		want(t, "into none", none.merge(w), api.OK)
		has(t, "into none", none.s, before)
		none.tells()
	}
	none := pairUp(t)
	none.doubled(20)
	has(t, "none with itself", none.s, blank())
}

// P8.1: with itself sum and count double.
func TestMergeItself(t *testing.T) {
	for _, w := range starts(t) {
		w.doubled(1)
		w.tells()
	}
	for _, l := range [][]float64{{0.1}, {1e16, -1e-16}, {0x1p-30, 1, 0x1p70}, {0x1p950, 0x1.fffffffffffffp959, 1, least}} {
		w := pairUp(t, l...)
		for w.m.count*2 <= most {
			w.doubled(1)
			w.tells()
		}
		want(t, "above MaxList", w.merge(w), api.ErrLong)
		w.tells()
	}
}

// P8.1: both together at MaxList are taken, above it refused, whatever the numbers are; both stay as they were then.
func TestMergeLong(t *testing.T) {
	for _, x := range []float64{noughtBelow, 0.1, -least, greatest} {
		for _, n := range []int{0, 1, 2, 1000, most / 2, most/2 + 1, most - 1, most} {
			w, o := many(t, n, x), many(t, most-n, -x)
			more := many(t, most-n, -x)
			if n > 0 {
				more.add(1)
				want(t, "one above MaxList", w.merge(more), api.ErrLong)
				want(t, "one above MaxList", more.merge(w), api.ErrLong)
			}
			want(t, "at MaxList", w.merge(o), api.OK)
			want(t, "full with none", w.merge(pairUp(t)), api.OK)
			want(t, "full with a nought", w.merge(pairUp(t, 0)), api.ErrLong)
			want(t, "a nought with full", pairUp(t, 0).merge(w), api.ErrLong)
			want(t, "full with itself", w.merge(w), api.ErrLong)
			want(t, "one more", w.add(x), api.ErrLong)
		}
	}
	w := many(t, most/2+1, 1)
	want(t, "one above MaxList with itself", w.merge(w), api.ErrLong)
}

// Many of all kinds, merged with each other.
func TestManyMerges(t *testing.T) {
	d := dice(82)
	group := starts(t)
	refused := 0
	for range 1000 {
		i, j := d.below(len(group)), d.below(len(group))
		if group[i].merge(group[j]) == api.ErrLong {
			refused++
			group[i] = pairUp(t)
		}
		for _, x := range d.list(d.below(5)) {
			group[j].add(x)
		}
	}
	for _, w := range group {
		w.tells()
	}
	if refused < 20 {
		t.Errorf("only %d merges were refused", refused)
	}
}
