package tally

import (
	"testing"

	"steelyard/api"
)

// sample is the chapter's list.
func sample() []float64 { return nums(2, noughtBelow, 0, hole, 2, odds()[9]) }

// is fails unless a tally tells just this.
func is(t *testing.T, what string, h *Tally, often api.Entry, all, unlike int, l ...api.Entry) {
	t.Helper()
	if got := h.Entries(); !sameEntries(got, l) {
		t.Errorf("%s: Entries %x; want %x", what, got, l)
	}
	if got, there := h.Often(); !there || !sameEntry(got, often) {
		t.Errorf("%s: Often %x, %t; want %x", what, got, there, often)
	}
	if h.All() != all || h.Unlike() != unlike {
		t.Errorf("%s: All %d, Unlike %d; want %d, %d", what, h.All(), h.Unlike(), all, unlike)
	}
}

func filled(t *testing.T, joined bool, l ...float64) *Tally {
	t.Helper()
	h := New(joined)
	for _, x := range l {
		want(t, "Add", h.Add(x), api.OK)
	}
	return h
}

func TestExampleEntries(t *testing.T) {
	h := filled(t, false, sample()...)
	is(t, "not joined", h, entry(2, 2), 6, 4, entry(noughtBelow, 1), entry(0, 1), entry(2, 2), entry(hole, 2))
	if n := h.Count(noughtBelow); n != 1 {
		t.Errorf("Count(-0) %d", n)
	}
	h = filled(t, true, sample()...)
	is(t, "joined", h, entry(0, 2), 6, 3, entry(0, 2), entry(2, 2), entry(hole, 2))
	if n := h.Count(noughtBelow); n != 2 {
		t.Errorf("joined: Count(-0) %d", n)
	}
}

func TestExampleTake(t *testing.T) {
	for _, joined := range kinds {
		h := filled(t, joined, sample()...)
		unlike := h.Unlike()
		for i, x := range nums(2, 2, 2, 3) {
			if got := h.Take(x); got != (i < 2) {
				t.Errorf("Take(%g), the call %d: %t", x, i, got)
			}
		}
		if h.Count(2) != 0 || h.Unlike() != unlike-1 {
			t.Errorf("taken: Count %d, Unlike %d of %d", h.Count(2), h.Unlike(), unlike)
		}
	}
}

func TestExampleNone(t *testing.T) {
	for _, joined := range kinds {
		if e, there := New(joined).Often(); there || !sameEntry(e, api.Entry{}) {
			t.Errorf("Often of nothing: %x, %t", e, there)
		}
	}
	h := New(false)
	want(t, "Merge", h.Merge(filled(t, true, noughtBelow)), api.OK)
	is(t, "a joined -0", h, entry(0, 1), 1, 1, entry(0, 1))
}

func TestExampleDoubled(t *testing.T) {
	h := filled(t, false, 1)
	for range 40 {
		want(t, "Merge with itself", h.Merge(h), api.OK)
	}
	is(t, "doubled", h, entry(1, 1<<40), 1<<40, 1, entry(1, 1<<40))
	want(t, "Add", h.Add(1), 2)
	want(t, "Merge with itself", h.Merge(h), 2)
	if !h.Take(1) {
		t.Error("Take(1): false")
	}
	want(t, "Add after Take", h.Add(1), api.OK)
	is(t, "at the limit", h, entry(1, 1<<40), 1<<40, 1, entry(1, 1<<40))
}
