package tally

import (
	"slices"
	"testing"

	"steelyard/api"
)

// gathered is a list, cut into pieces, each counted by a tally of one kind, and merged in some order.
func gathered(t *testing.T, d *dice, joined bool, l []float64) *Tally {
	t.Helper()
	group := []*Tally{New(joined)}
	for range d.below(6) {
		group = append(group, New(joined))
	}
	for _, x := range l {
		want(t, "Add", group[d.below(len(group))].Add(x), api.OK)
	}
	for len(group) > 1 {
		i, j := d.below(len(group)), d.below(len(group)-1)
		if j >= i {
			j++
		}
		want(t, "Merge", group[i].Merge(group[j]), api.OK)
		group = slices.Delete(group, j, j+1)
	}
	return group[0]
}

// alike fails unless a tally's Entries are these.
func alike(t *testing.T, what string, h *Tally, is []api.Entry) {
	t.Helper()
	if got := h.Entries(); !sameEntries(got, is) {
		t.Errorf("%s: Entries %x; want %x", what, brief(got), brief(is))
	}
}

// What follows, and P0.1: in whatever order numbers are added, and however they were cut and merged, Entries are the same.
func TestOrderIsNotSeen(t *testing.T) {
	d := dice(187)
	for range 400 {
		joined, l := d.joined(), d.list(d.below(100), d.row(40))
		is := filled(t, joined, l...).Entries()
		for range 4 {
			alike(t, "in another order", filled(t, joined, d.shuffled(l)...), is)
			alike(t, "cut and merged", gathered(t, &d, joined, d.shuffled(l)), is)
		}
	}
	for _, joined := range kinds {
		eachList(4, nums(0, noughtBelow, -1, hole, inf), func(l []float64) {
			back := slices.Clone(l)
			slices.Reverse(back)
			alike(t, "from behind", filled(t, joined, back...), filled(t, joined, l...).Entries())
		})
	}
}

// What follows: what is added and taken again, in whatever order, leaves what was there.
func TestAddedAndTaken(t *testing.T) {
	d := dice(188)
	for range 400 {
		row := d.row(40)
		h := filled(t, d.joined(), d.list(d.below(60), row)...)
		is, all, unlike := h.Entries(), h.All(), h.Unlike()
		often, there := h.Often()
		l := d.list(d.below(60), append(row, d.row(10)...))
		for _, x := range l {
			want(t, "Add", h.Add(x), api.OK)
		}
		for _, x := range d.shuffled(l) {
			if !h.Take(x) {
				t.Errorf("Take(%x) of what was added: false", x)
			}
		}
		alike(t, "added and taken", h, is)
		if h.All() != all || h.Unlike() != unlike {
			t.Errorf("added and taken: All %d, Unlike %d; want %d, %d", h.All(), h.Unlike(), all, unlike)
		}
		if e, still := h.Often(); still != there || !sameEntry(e, often) {
			t.Errorf("added and taken: Often %x, %t; want %x, %t", e, still, often, there)
		}
	}
}

// What follows: what is merged, and taken again one by one, leaves what was there, too.
func TestMergedAndTaken(t *testing.T) {
	d := dice(189)
	for range 200 {
		row := d.row(40)
		h := filled(t, d.joined(), d.list(d.below(60), row)...)
		is, l := h.Entries(), d.list(d.below(60), row)
		want(t, "Merge", h.Merge(filled(t, false, l...)), api.OK)
		for _, x := range d.shuffled(l) {
			if !h.Take(x) {
				t.Errorf("Take(%x) of what was merged: false", x)
			}
		}
		alike(t, "merged and taken", h, is)
	}
}

// What follows: the counts of all Entries are All, their number is Unlike, each is above 0, and what Count tells of its value.
func TestCountsAreAll(t *testing.T) {
	d := dice(190)
	for range 300 {
		h := gathered(t, &d, d.joined(), d.list(d.below(100), d.row(50)))
		for range d.below(30) {
			want(t, "Merge with itself", h.Merge(h), api.OK)
		}
		n, l := 0, h.Entries()
		for _, e := range l {
			n += e.Count
			if e.Count < 1 || h.Count(e.Value) != e.Count {
				t.Errorf("%x: Count %d", e, h.Count(e.Value))
			}
		}
		if n != h.All() || len(l) != h.Unlike() {
			t.Errorf("Entries come to %d, %d of them; All %d, Unlike %d", n, len(l), h.All(), h.Unlike())
		}
		e, there := h.Often()
		if there != (len(l) > 0) || there && !slices.ContainsFunc(l, func(o api.Entry) bool { return sameEntry(o, e) }) {
			t.Errorf("Often %x, %t is none of Entries", e, there)
		}
	}
}

// joinedUp are the Entries of one that is not joined, the noughts put together.
func joinedUp(l []api.Entry) []api.Entry {
	var out []api.Entry
	for _, e := range l {
		last := len(out) - 1
		switch {
		case e.Value == 0 && last >= 0 && out[last].Value == 0:
			out[last].Count += e.Count
		case e.Value == 0:
			out = append(out, entry(0, e.Count))
		default:
			out = append(out, e)
		}
	}
	return out
}

// What follows: a joined tally's Entries are those of one that is not, but for the noughts, which stand there together; so they are, where the other one is merged into it.
func TestJoinedAgainstNot(t *testing.T) {
	d := dice(191)
	for range 400 {
		l := d.list(d.below(80), append(d.row(20), nums(0, noughtBelow)[:d.below(3)]...))
		apart, joined := filled(t, false, l...), filled(t, true, l...)
		is := joinedUp(apart.Entries())
		alike(t, "joined", joined, is)
		if apart.All() != joined.All() || joined.Count(0) != apart.Count(0)+apart.Count(noughtBelow) {
			t.Errorf("All %d and %d; Count(0) %d of %d and %d", apart.All(), joined.All(), joined.Count(0), apart.Count(0), apart.Count(noughtBelow))
		}
		h := New(true)
		want(t, "Merge", h.Merge(apart), api.OK)
		alike(t, "merged into a joined one", h, is)
		h = New(false)
		want(t, "Merge", h.Merge(joined), api.OK)
		alike(t, "a joined one merged into one that is not", h, is)
	}
}
