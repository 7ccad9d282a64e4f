package tally

import (
	"slices"
	"testing"

	"steelyard/bits"
)

// P18.4: Entries stand by bits.Order, whatever order they came in: -Inf first, -0 ahead of +0, NaN last.
func TestEntriesByOrder(t *testing.T) {
	d := dice(185)
	for _, joined := range kinds {
		for range 40 {
			l := d.shuffled(append(ends(), odds()...))
			w := pairUp(t, joined, l...)
			got := w.h.Entries()
			for i := range got[1:] {
				if bits.Order(got[i].Value, got[i+1].Value) != -1 {
					t.Errorf("%x stands ahead of %x", got[i].Value, got[i+1].Value)
				}
			}
			if last := got[len(got)-1]; !sameEntry(last, entry(hole, len(odds()))) {
				t.Errorf("last: %x", last)
			}
			if first := got[0]; !sameEntry(first, entry(-inf, 1)) {
				t.Errorf("first: %x", first)
			}
			w.tells("all ends")
		}
	}
	w := pairUp(t, false, hole, inf, greatest, 1, least, 0, noughtBelow, -least, -1, -greatest, -inf)
	w.has("from behind", entry(-inf, 1), entry(-greatest, 1), entry(-1, 1), entry(-least, 1), entry(noughtBelow, 1), entry(0, 1),
		entry(least, 1), entry(1, 1), entry(greatest, 1), entry(inf, 1), entry(hole, 1))
}

// P18.4: of several as great Often is the first of them in Entries.
func TestOftenOfSeveral(t *testing.T) {
	rising := nums(-inf, -greatest, -1, noughtBelow, 0, least, 1, inf, hole)
	for from := range rising {
		l := rising[from:]
		for range 8 {
			w := pairUp(t, false, slices.Concat(l, l)...)
			w.tells("all as great")
			if e, there := w.h.Often(); !there || !sameEntry(e, entry(l[0], 2)) {
				t.Errorf("Often of %x: %x, %t", l, e, there)
			}
			// One that stands further behind, and is there once more, goes ahead of them.
			for _, x := range l[1:] {
				w.add(x)
				if e, there := w.h.Often(); !there || !sameEntry(e, entry(x, 3)) {
					t.Errorf("Often of %x, one more of %x: %x, %t", l, x, e, there)
				}
				w.take(x)
			}
		}
	}
}

// P18.4: all lists of a few numbers: the greatest count wins, of several as great the first.
func TestOftenOfAllLists(t *testing.T) {
	for _, joined := range kinds {
		eachList(5, nums(noughtBelow, 0, 1, -1, hole), func(l []float64) {
			pairUp(t, joined, l...).tells("a list")
		})
	}
}

// P18.4: joined noughts come together to more than others.
func TestOftenOfNoughts(t *testing.T) {
	l := nums(0, noughtBelow, 1, -1, -1, 0, noughtBelow, 1, 1)
	if e, there := pairUp(t, false, l...).h.Often(); !there || !sameEntry(e, entry(1, 3)) {
		t.Errorf("Often %x, %t", e, there)
	}
	if e, there := pairUp(t, true, l...).h.Often(); !there || !sameEntry(e, entry(0, 4)) {
		t.Errorf("joined: Often %x, %t", e, there)
	}
}

// P18.4: there is none, when nothing was counted, or all was taken: a zero entry and false.
func TestOftenOfNone(t *testing.T) {
	for _, joined := range kinds {
		for _, w := range starts(t, joined)[:2] {
			e, there := w.h.Often()
			if there || !sameEntry(e, entry(0, 0)) {
				t.Errorf("Often of nothing: %x, %t", e, there)
			}
			w.has("nothing")
		}
	}
}

// P18.4: asked for one that is not there, Count is 0, and it does not come to be there by that.
func TestCountOfNone(t *testing.T) {
	for _, joined := range kinds {
		for _, w := range starts(t, joined) {
			before := w.h.Entries()
			for _, x := range append(odds(), append(ends(), 0.3)...) {
				w.counts("asked", x)
			}
			w.has("after it was asked", before...)
		}
	}
}
