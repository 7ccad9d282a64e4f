package hist

import (
	"slices"
	"testing"

	"steelyard/api"
)

// roomy is a list with spare room behind it, and a way to ask whether either was changed.
func roomy(l []float64) (list []float64, kept func() bool) {
	all := append(slices.Clone(l), 5, -7, 9)
	was := slices.Clone(all)
	return all[:len(l)], func() bool { return slices.EqualFunc(all, was, sameBits) }
}

// fill writes over all of an answer, its spare room too.
func fill[T any](l []T, by T) {
	l = l[:cap(l)]
	for i := range l {
		l[i] = by
	}
}

// R2: no list of edges is changed, nor the spare room behind it, also where it is refused; nor does a Hist change with the list it was made of.
func TestListsStayAsTheyAre(t *testing.T) {
	for _, a := range [][]float64{nil, {3}, {2, 1}, {1, hole}, {noughtBelow, 1, 2}, {-1, 0, 0.5}, rising(widest), rising(widest + 1)} {
		l, kept := roomy(a)
		h, e := New(l)
		if e == api.OK {
			for _, x := range append(sorts(), a...) {
				h.Add(x)
			}
			h.Merge(h)
			h.Merge(made(t, l...))
			h.Counts()
			h.Running()
		}
		if !kept() {
			t.Errorf("a list of %d numbers was changed", len(a))
		}
	}
	for _, edges := range [][]float64{{0, 1, 2}, rising(widest)} {
		l := slices.Clone(edges)
		w := &twin{t: t, h: made(t, l...), m: blank(edges)}
		for _, x := range sorts() {
			w.add(x)
			fill(l, x)
			w.add(x)
			w.tells("after its list was written over")
		}
		w.merge(pairUp(t, edges, sorts()...))
		want(t, "merged with what the list is now", w.h.Merge(made(t, 0, 7)), api.ErrEdges)
	}
}

// R2: what is answered is its owner's, its spare room too: written over, it changes neither the Hist nor another answer.
func TestAnswersAreNew(t *testing.T) {
	for _, edges := range [][]float64{{0, 1}, {0, 1, 2}, rising(5), rising(widest)} {
		w := pairUp(t, edges, sorts()...)
		counts, running := w.h.Counts(), w.h.Running()
		is := w.m.tells()
		fill(w.h.Counts(), -77)
		fill(w.h.Running(), -77)
		w.tells("after what it told was written over")
		for _, x := range append(sorts(), edges...) {
			w.add(x)
		}
		w.merge(w)
		if !slices.Equal(counts, is.counts) || !slices.Equal(running, is.running) {
			t.Errorf("what was told has changed: %d, %d", brief(counts), brief(running))
		}
		fill(counts, -78)
		fill(running, -79)
		w.tells("after what it told before was written over")
		if slices.Contains(counts, -79) || slices.Contains(running, -78) {
			t.Error("two answers share memory")
		}
	}
	l, _ := Edges(0, 1, 4)
	fill(l[:0], -77)
	again, _ := Edges(0, 1, 4)
	lists(t, "Edges again", again, nums(0, 0.25, 0.5, 0.75, 1))
	h := made(t, again...)
	fill(again, 9)
	want(t, "Add", h.Add(0.3), api.OK)
	tells(t, "of Edges that were written over", h, told{counts: ints(0, 1, 0, 0), all: 1, running: ints(0, 0, 1, 1, 1)})
}

// P17.5: Hists have nothing in common: of one list, of answers of one, merged with each other.
func TestNothingInCommon(t *testing.T) {
	edges := nums(0, 1, 2)
	group := []*twin{}
	for range 4 {
		group = append(group, &twin{t: t, h: made(t, edges...), m: blank(edges)})
	}
	for i, x := range append(sorts(), 0, 1, 1.5) {
		group[i%4].add(x)
		group[i%4].merge(group[(i+1)%4])
		for _, w := range group {
			w.tells("one of four")
		}
	}
	mine, other := made(t, 0, 1), made(t, 0, 2)
	mine.Add(0.5)
	tells(t, "one of other edges", other, told{counts: ints(0), running: ints(0, 0)})
}

// R3: nil and an empty list are the same.
func TestNilAndEmpty(t *testing.T) {
	for _, l := range [][]float64{nil, {}, make([]float64, 0, 4), nums(0, 1, 2)[:0]} {
		if h, e := New(l); h != nil || e != api.ErrEdges {
			t.Errorf("New of none: nil %t, error %d", h == nil, e)
		}
	}
}

// R6: the same calls answer the same, whatever was asked in between, and asking changes nothing.
func TestAskingChangesNothing(t *testing.T) {
	w := pairUp(t, nums(0, 1, 2), sorts()...)
	is := tellsOf(w.h)
	for range 5 {
		w.h.Running()
		w.h.Counts()
		w.h.Outside()
		w.h.All()
		Edges(1, 0, 5)
		New(nil)
		w.h.Merge(made(t, 0, 1))
		tells(t, "asked again", w.h, is)
	}
	a, e := Edges(0.1, 0.7, 9)
	Edges(hole, 0, 1)
	Edges(-1, 1, widest-1)
	b, f := Edges(0.1, 0.7, 9)
	lists(t, "Edges again", b, a)
	if e != api.OK || f != api.OK {
		t.Errorf("Edges: errors %d, %d", e, f)
	}
}
