package hist

import (
	"testing"

	"steelyard/api"
)

// starts are of one row of edges: of nothing, of one of each sort, of all, of many.
func starts(t *testing.T, edges []float64) []*twin {
	l := []*twin{pairUp(t, edges)}
	for _, x := range sorts() {
		l = append(l, pairUp(t, edges, x, x, 0))
	}
	return append(l, pairUp(t, edges, sorts()...), many(t, edges, 1000, 1.5, hole), many(t, edges, 1<<36-3, sorts()...))
}

// P17.3: all that the other one counted is counted; the other one stays as it is, and from then on neither knows of the other.
func TestMerge(t *testing.T) {
	edges := nums(0, 1, 2)
	kinds := len(starts(t, edges))
	for i := range kinds {
		for j := range kinds {
			w, o := starts(t, edges)[i], starts(t, edges)[j]
			want(t, "Merge", w.merge(o), api.OK)
			want(t, "Merge again", w.merge(o), api.OK)
			for _, x := range sorts() {
				o.add(x)
				w.tells("what was merged into, after the other has changed")
				w.add(x)
				w.add(x)
				o.tells("what was merged, after the other has changed")
			}
		}
	}
}

// P17.3: with itself all is counted once more, up to MaxCount.
func TestMergeItself(t *testing.T) {
	edges := nums(0, 1, 2)
	for _, w := range starts(t, edges) {
		n := w.h.All()
		for range 60 {
			if e := w.merge(w); e == api.OK {
				n *= 2
			}
		}
		if w.h.All() != n || n > most || n > 0 && 2*n <= most {
			t.Errorf("doubled: All %d; want %d", w.h.All(), n)
		}
	}
	w := many(t, edges, most/2, sorts()...)
	want(t, "half of what may be", w.merge(w), api.OK)
	w = many(t, edges, most/2+1, sorts()...)
	want(t, "one more than half", w.merge(w), api.ErrLong)
}

// P17.3: other edges are refused, ahead of too many numbers, whatever either has counted, and both stay as they are: more, fewer, one that lies elsewhere, by little or by much.
func TestMergeRefusesOtherEdges(t *testing.T) {
	for _, c := range [][2][]float64{
		{{0, 1, 2}, {0, 1, 3}}, {{0, 1, 2}, {0, 1}}, {{0, 1, 2}, {0, 2}}, {{0, 1, 2}, {1, 2}}, {{0, 1, 2}, {0, 1, 2, 3}},
		{{0, 1, 2}, {0, 1, next(2)}}, {{0, 1, 2}, {0, next(1), 2}}, {{0, 1, 2}, {least, 1, 2}}, {{0, 1, 2}, {-least, 1, 2}},
		{{0, 1}, {-1, 0}}, {{-1, 0}, {-1, least}}, {{-1, 1}, {-greatest, greatest}}, {rising(widest), rising(widest - 1)},
		{rising(widest), append(rising(widest-1), 5000)}, {{noughtBelow, 1, 2}, {0, 1, 3}},
	} {
		for _, n := range []int{0, 1, most} {
			for _, m := range []int{0, 1, most} {
				w, o := many(t, c[0], n, sorts()...), many(t, c[1], m, sorts()...)
				want(t, "other edges", w.merge(o), api.ErrEdges)
				want(t, "other edges", o.merge(w), api.ErrEdges)
			}
		}
	}
	h := made(t, rising(widest)...)
	for i := range widest {
		l := rising(widest)
		l[i] = next(l[i])
		if e := h.Merge(made(t, l...)); e != api.ErrEdges {
			t.Errorf("other at %d: error %d", i, e)
		}
	}
}

// P17.3: edges that are alike as values, but for a nought's sign, are no others.
func TestMergeOfNoughts(t *testing.T) {
	for _, c := range [][2][]float64{
		{{0, 1, 2}, {noughtBelow, 1, 2}}, {{-1, 0, 2}, {-1, noughtBelow, 2}}, {{-2, -1, 0}, {-2, -1, noughtBelow}},
		{{-least, 0, least}, {-least, noughtBelow, least}}, {{0, 1, 2}, {0, 1, 2}}, {{noughtBelow, 1, 2}, {noughtBelow, 1, 2}},
	} {
		list := append(sorts(), 0, noughtBelow, least, -least, 1, 2)
		w, o := pairUp(t, c[0], list...), pairUp(t, c[1], list...)
		want(t, "a nought's sign", w.merge(o), api.OK)
		want(t, "a nought's sign", o.merge(w), api.OK)
		for _, x := range list {
			w.add(x)
			o.add(x)
		}
		w.tells("a nought's sign")
		o.tells("a nought's sign")
		many(t, c[0], most, list...).merge(o)
	}
}

// P17.3: one that has counted nothing changes nothing, at MaxCount too; merged into, it has just the other's.
func TestMergeNone(t *testing.T) {
	edges := nums(0, 1, 2)
	for _, w := range append(starts(t, edges), many(t, edges, most, sorts()...)) {
		before, none := tellsOf(w.h), pairUp(t, edges)
		want(t, "with none", w.merge(none), api.OK)
		tells(t, "with none", w.h, before)
		want(t, "into none", none.merge(w), api.OK)
		tells(t, "into none", none.h, before)
	}
	none := pairUp(t, edges)
	for range 50 {
		want(t, "none with itself", none.merge(none), api.OK)
	}
	tells(t, "none with itself", none.h, told{counts: ints(0, 0), running: ints(0, 0, 0)})
}

// P17.3: both together at MaxCount are taken, above it refused, of whatever sorts they are; both stay as they were then.
func TestMergeLong(t *testing.T) {
	edges := nums(0, 1, 2)
	for _, x := range sorts() {
		for _, y := range sorts() {
			for _, n := range []int{0, 1, 1000, most / 2, most/2 + 1, most - 1, most} {
				w, o := many(t, edges, n, x), many(t, edges, most-n, y)
				if n > 0 {
					more := many(t, edges, most-n+1, y)
					want(t, "one above MaxCount", w.merge(more), api.ErrLong)
					want(t, "one above MaxCount", more.merge(w), api.ErrLong)
				}
				want(t, "at MaxCount", w.merge(o), api.OK)
				want(t, "full with none", w.merge(pairUp(t, edges)), api.OK)
				want(t, "full with one", w.merge(pairUp(t, edges, x)), api.ErrLong)
				want(t, "one with full", pairUp(t, edges, y).merge(w), api.ErrLong)
				want(t, "full with itself", w.merge(w), api.ErrLong)
				want(t, "one more", w.add(x), api.ErrLong)
			}
		}
	}
}

// P17.3, P17.4: many of all kinds, added to and merged with each other: what is told is what was counted, all the way.
func TestManyMerges(t *testing.T) {
	d := dice(174)
	for range 12 {
		edges := d.edges(2 + d.below(30))
		group := starts(t, edges)
		for range 300 {
			i, j := d.below(len(group)), d.below(len(group))
			if group[i].merge(group[j]) == api.ErrLong {
				group[i] = pairUp(t, edges)
			}
			for _, x := range d.list(d.below(5), edges) {
				group[j].add(x)
			}
		}
		for _, w := range group {
			w.tells("many merges")
		}
	}
}
