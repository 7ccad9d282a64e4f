package tally

import (
	"testing"

	"steelyard/api"
)

// starts are of one kind: of nothing, of nothing any more, of one of each sort, of all, of many.
func starts(t *testing.T, joined bool) []*twin {
	t.Helper()
	empty := pairUp(t, joined, 1, hole)
	empty.take(hole)
	empty.take(1)
	l := []*twin{pairUp(t, joined), empty}
	for _, x := range sorts() {
		l = append(l, pairUp(t, joined, x, x, 0))
	}
	return append(l, pairUp(t, joined, sorts()...), pairUp(t, joined, ends()...), many(t, joined, 1000, 1.5, hole), many(t, joined, 1<<36-3, sorts()...))
}

// P18.3: all that the other one has is counted, by the own rule of the one that it is merged into; the other one stays as it is, and from then on neither knows of the other.
func TestMerge(t *testing.T) {
	n := len(starts(t, false))
	for k := range 4 {
		for i := range n {
			for j := range n {
				w, o := starts(t, kinds[k/2])[i], starts(t, kinds[k%2])[j]
				want(t, "Merge", w.merge(o), api.OK)
				w.tells("what was merged into")
				o.tells("what was merged")
				want(t, "Merge again", w.merge(o), api.OK)
				for _, x := range nums(0, noughtBelow, hole, 7) {
					o.add(x)
					w.tells("what was merged into, after the other has changed")
					w.add(x)
					w.add(x)
					w.take(1)
					o.tells("what was merged, after the other has changed")
				}
			}
		}
	}
}

// P18.3: the noughts of a joined one are +0 in one that is not; those of one that is not are one in a joined one.
func TestMergeNoughts(t *testing.T) {
	apart, joined := pairUp(t, false, noughtBelow, noughtBelow, 0, 1), pairUp(t, true, noughtBelow, noughtBelow, 0, 1)
	w := pairUp(t, false, noughtBelow)
	w.merge(joined)
	w.has("joined into one that is not", entry(noughtBelow, 1), entry(0, 3), entry(1, 1))
	w.merge(apart)
	w.has("one that is not into its like", entry(noughtBelow, 3), entry(0, 4), entry(1, 2))
	w = pairUp(t, true, noughtBelow)
	w.merge(apart)
	w.has("one that is not into a joined one", entry(0, 4), entry(1, 1))
	w.merge(joined)
	w.has("joined into its like", entry(0, 7), entry(1, 2))
	if !w.take(noughtBelow) || !w.take(0) || w.h.Count(noughtBelow) != 5 {
		t.Errorf("noughts that were merged: Count(-0) %d", w.h.Count(noughtBelow))
	}
	for _, x := range nums(0, noughtBelow) {
		w = pairUp(t, true)
		w.merge(pairUp(t, false, x, x))
		w.has("noughts of one sign into a joined one", entry(0, 2))
		w = pairUp(t, false)
		w.merge(pairUp(t, true, x, x))
		w.has("joined noughts into one that is not", entry(0, 2))
		w = pairUp(t, false)
		w.merge(pairUp(t, false, x, x))
		w.has("noughts of one sign into their like", entry(x, 2))
	}
	apart.has("what was merged", entry(noughtBelow, 2), entry(0, 1), entry(1, 1))
	joined.has("what was merged, joined", entry(0, 3), entry(1, 1))
}

// P18.3: that one was merged into the other says nothing of its own rule.
func TestMergeKeepsTheRule(t *testing.T) {
	for _, joined := range kinds {
		w := pairUp(t, joined)
		for range 3 {
			w.merge(pairUp(t, !joined, 0, noughtBelow))
			w.add(noughtBelow)
			w.add(0)
			w.tells("its own rule")
		}
	}
}

// P18.3: with itself each value is counted twice as often, up to MaxCount.
func TestMergeItself(t *testing.T) {
	for _, joined := range kinds {
		for _, w := range append(starts(t, joined), pairUp(t, joined, ends()...)) {
			n, unlike := w.h.All(), w.h.Unlike()
			for range 50 {
				if w.merge(w) == api.OK {
					n *= 2
				}
				w.tells("doubled")
			}
			if w.h.All() != n || w.h.Unlike() != unlike || n > most || n > 0 && 2*n <= most {
				t.Errorf("doubled: All %d, Unlike %d; want %d, %d", w.h.All(), w.h.Unlike(), n, unlike)
			}
		}
		w := many(t, joined, most/2, sorts()...)
		want(t, "half of what may be", w.merge(w), api.OK)
		w.tells("full")
		w = many(t, joined, most/2+1, sorts()...)
		want(t, "one more than half", w.merge(w), api.ErrLong)
		w.tells("more than half, refused")
	}
}

// P18.3: with itself, of many values, as a map's order and its growth are not seen.
func TestMergeItselfOfMany(t *testing.T) {
	d := dice(183)
	for _, joined := range kinds {
		w := pairUp(t, joined)
		for range 2000 {
			w.add(d.any())
		}
		for range 10 {
			want(t, "Merge with itself", w.merge(w), api.OK)
			w.tells("doubled")
		}
	}
}

// P18.3: one that has counted nothing, or nothing any more, changes nothing, at MaxCount too; merged into, it has just the other's.
func TestMergeNone(t *testing.T) {
	for _, joined := range kinds {
		for _, w := range append(starts(t, joined), many(t, joined, most, sorts()...)) {
			before := w.h.Entries()
			for _, other := range kinds {
				for _, none := range starts(t, other)[:2] {
					want(t, "with none", w.merge(none), api.OK)
					w.has("with none", before...)
					none.has("none")
				}
			}
			for _, none := range starts(t, joined)[:2] {
				want(t, "into none", none.merge(w), api.OK)
				none.has("into none", before...)
			}
		}
		none := pairUp(t, joined)
		for range 50 {
			want(t, "none with itself", none.merge(none), api.OK)
		}
		none.has("none with itself")
	}
}

// P18.3: both together at MaxCount are taken, above it refused, of whatever kind and value they are; both stay as they were then.
func TestMergeLong(t *testing.T) {
	for k := range 4 {
		a, b := kinds[k/2], kinds[k%2]
		for _, x := range nums(0, noughtBelow, hole, 1) {
			for _, n := range []int{0, 1, 1000, most / 2, most/2 + 1, most - 1, most} {
				w, o := many(t, a, n, x), many(t, b, most-n, noughtBelow, 1)
				if n > 0 {
					more := many(t, b, most-n+1, noughtBelow, 1)
					want(t, "one above MaxCount", w.merge(more), api.ErrLong)
					want(t, "one above MaxCount", more.merge(w), api.ErrLong)
					w.tells("refused")
					more.tells("refused")
				}
				want(t, "at MaxCount", w.merge(o), api.OK)
				w.tells("full")
				o.tells("merged")
				want(t, "full with none", w.merge(pairUp(t, b)), api.OK)
				want(t, "full with one", w.merge(pairUp(t, b, x)), api.ErrLong)
				one := pairUp(t, b, 0.3)
				want(t, "one with full", one.merge(w), api.ErrLong)
				one.has("one with full", entry(0.3, 1))
				want(t, "full with itself", w.merge(w), api.ErrLong)
				want(t, "one more", w.add(x), api.ErrLong)
				w.tells("full, and asked for more")
				if !w.take(w.h.Entries()[0].Value) {
					t.Error("Take of what is full: false")
				}
				want(t, "room for one", w.merge(one), api.OK)
				w.tells("full again")
			}
		}
	}
}

// P18.3: both at MaxCount, more than twice which can't come.
func TestMergeOfFull(t *testing.T) {
	for k := range 4 {
		w, o := many(t, kinds[k/2], most, sorts()...), many(t, kinds[k%2], most, ends()...)
		want(t, "full with full", w.merge(o), api.ErrLong)
		w.tells("full with full")
		o.tells("full with full")
	}
}

// P18.2 to P18.4: many of both kinds, added to, taken from and merged with each other: what is told is what was counted, all the way.
func TestManyMerges(t *testing.T) {
	d := dice(184)
	for range 12 {
		group := append(starts(t, false), starts(t, true)...)
		row := d.row(40)
		for range 300 {
			i, j := d.below(len(group)), d.below(len(group))
			if group[i].merge(group[j]) == api.ErrLong {
				group[i] = pairUp(t, d.joined())
			}
			for _, x := range d.list(d.below(5), row) {
				group[j].add(x)
			}
			for _, x := range d.list(d.below(5), row) {
				group[i].take(x)
			}
			group[i].tells("on the way")
		}
		for _, w := range group {
			w.tells("many merges")
		}
	}
}
