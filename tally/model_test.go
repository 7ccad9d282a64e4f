package tally

import (
	"cmp"
	"slices"
	"testing"

	"steelyard/api"
)

// place is a whole number that rises with the total order: the bits, turned round below nought; all NaN have the greatest one.
func place(x float64) uint64 {
	b := hex(x)
	switch {
	case b&^signBit > endless:
		return 1<<64 - 1
	case b&signBit != 0:
		return ^b
	}
	return b | signBit
}

// model is a tally as a plain list in the total order, told by the chapter's words alone.
type model struct {
	joined bool
	list   []api.Entry
}

// worth is the value of a number.
func (m *model) worth(x float64) float64 {
	switch {
	case x != x:
		return hole
	case x == 0 && m.joined:
		return 0
	}
	return x
}

func (m *model) find(x float64) (int, bool) {
	return slices.BinarySearchFunc(m.list, place(m.worth(x)), func(e api.Entry, p uint64) int { return cmp.Compare(place(e.Value), p) })
}

// more counts n more, or less, of a number.
func (m *model) more(x float64, n int) {
	at, is := m.find(x)
	if !is {
		m.list = slices.Insert(m.list, at, entry(m.worth(x), 0))
	}
	m.list[at].Count += n
	if m.list[at].Count == 0 {
		m.list = slices.Delete(m.list, at, at+1)
	}
}

func (m *model) count(x float64) int {
	if at, is := m.find(x); is {
		return m.list[at].Count
	}
	return 0
}

func (m *model) all() int {
	n := 0
	for _, e := range m.list {
		n += e.Count
	}
	return n
}

func (m *model) often() (api.Entry, bool) {
	if len(m.list) == 0 {
		return api.Entry{}, false
	}
	// MaxFunc answers the first of several as great.
	return slices.MaxFunc(m.list, func(a, b api.Entry) int { return cmp.Compare(a.Count, b.Count) }), true
}

// twin is a tally with its model, on which the same calls are made.
type twin struct {
	t *testing.T
	h *Tally
	m *model
}

// pairUp is a twin that has counted a list.
func pairUp(t *testing.T, joined bool, list ...float64) *twin {
	t.Helper()
	w := &twin{t: t, h: New(joined), m: &model{joined: joined}}
	if w.h == nil {
		t.Fatal("New: nil")
	}
	for _, x := range list {
		want(t, "Add", w.add(x), api.OK)
	}
	return w
}

// many is a twin that has counted n numbers, of a row's as evenly as it goes, by doubling, as no one can add so many.
func many(t *testing.T, joined bool, n int, row ...float64) *twin {
	t.Helper()
	w := pairUp(t, joined)
	for i, x := range row {
		share := n*(i+1)/len(row) - n*i/len(row)
		part := pairUp(t, joined)
		for b := 40; b >= 0; b-- {
			want(t, "Merge with itself", part.merge(part), api.OK)
			if share>>b&1 == 1 {
				want(t, "Add", part.add(x), api.OK)
			}
		}
		want(t, "Merge", w.merge(part), api.OK)
	}
	if w.h.All() != n {
		t.Fatalf("All %d; want %d", w.h.All(), n)
	}
	return w
}

// add answers what Add does, and fails unless it is what P18.2 says.
func (w *twin) add(x float64) api.Errno {
	w.t.Helper()
	is := api.ErrLong
	if w.m.all() < most {
		is = api.OK
		w.m.more(x, 1)
	}
	e := w.h.Add(x)
	want(w.t, "Add", e, is)
	return e
}

// take answers what Take does, and fails unless it is what P18.2 says.
func (w *twin) take(x float64) bool {
	w.t.Helper()
	is := w.m.count(x) > 0
	if is {
		w.m.more(x, -1)
	}
	if got := w.h.Take(x); got != is {
		w.t.Errorf("Take(%x): %t; want %t", x, got, is)
	}
	return is
}

// merge answers what Merge does, and fails unless it is what P18.3 says.
func (w *twin) merge(o *twin) api.Errno {
	w.t.Helper()
	is := api.ErrLong
	if w.m.all()+o.m.all() <= most {
		is = api.OK
		for _, e := range slices.Clone(o.m.list) {
			w.m.more(e.Value, e.Count)
		}
	}
	e := w.h.Merge(o.h)
	want(w.t, "Merge", e, is)
	return e
}

// tells fails unless all that the tally tells is what its model does.
func (w *twin) tells(what string) {
	w.t.Helper()
	if got := w.h.Entries(); !sameEntries(got, w.m.list) {
		w.t.Errorf("%s: Entries, %d of them: %x; want %d: %x", what, len(got), brief(got), len(w.m.list), brief(w.m.list))
	}
	e, is := w.m.often()
	if got, there := w.h.Often(); there != is || !sameEntry(got, e) {
		w.t.Errorf("%s: Often %x, %t; want %x, %t", what, got, there, e, is)
	}
	if all, n := w.h.All(), w.h.Unlike(); all != w.m.all() || n != len(w.m.list) {
		w.t.Errorf("%s: All %d, Unlike %d; want %d, %d", what, all, n, w.m.all(), len(w.m.list))
	}
	for _, e := range w.m.list {
		w.counts(what, e.Value)
	}
	for _, x := range append(sorts(), 0.3) {
		w.counts(what, x)
	}
}

// counts fails unless Count of one is what its model tells.
func (w *twin) counts(what string, x float64) {
	w.t.Helper()
	if n := w.h.Count(x); n != w.m.count(x) {
		w.t.Errorf("%s: Count(%x) %d; want %d", what, x, n, w.m.count(x))
	}
}

// has fails unless the tally's Entries are just these, and all else that is told goes with them.
func (w *twin) has(what string, l ...api.Entry) {
	w.t.Helper()
	if got := w.h.Entries(); !sameEntries(got, l) {
		w.t.Errorf("%s: Entries %x; want %x", what, brief(got), brief(l))
	}
	w.tells(what)
}
