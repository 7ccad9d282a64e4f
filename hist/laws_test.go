package hist

import (
	"slices"
	"testing"

	"steelyard/api"
)

// lawful fails unless what a Hist tells goes together, as P17.6 says.
func lawful(t *testing.T, h *Hist, bins int) {
	t.Helper()
	is := tellsOf(h)
	n := is.below + is.above + is.odd
	for _, c := range is.counts {
		n += c
	}
	if n != is.all {
		t.Errorf("Counts and Outside together are %d, All is %d", n, is.all)
	}
	if len(is.counts) != bins || len(is.running) != bins+1 {
		t.Fatalf("%d bins: %d Counts, %d Running", bins, len(is.counts), len(is.running))
	}
	if is.running[0] != is.below || is.running[bins] != is.all-is.above-is.odd || !slices.IsSorted(is.running) {
		t.Errorf("Running %d; Outside %d %d %d, All %d", brief(is.running), is.below, is.above, is.odd, is.all)
	}
	for i, c := range is.counts {
		if c < 0 || is.running[i+1]-is.running[i] != c {
			t.Errorf("bin %d: %d, Running %d", i, c, is.running[i:i+2])
		}
	}
}

// P17.6: Counts and Outside together are All; Running begins with below, never falls, and ends with All less above and odd.
func TestWhatIsToldGoesTogether(t *testing.T) {
	d := dice(175)
	for range 500 {
		edges := d.edges(2 + d.below(50))
		h, bins := made(t, edges...), len(edges)-1
		lawful(t, h, bins)
		l := d.list(d.below(80), edges)
		for _, x := range l {
			want(t, "Add", h.Add(x), api.OK)
			lawful(t, h, bins)
		}
		for n := len(l); n > 0 && 2*n <= most; n *= 2 {
			want(t, "Merge", h.Merge(h), api.OK)
			lawful(t, h, bins)
			if h.All() != 2*n {
				t.Errorf("All %d; want %d", h.All(), 2*n)
			}
		}
	}
}

// P17.6: Running at an edge is how many of a list are below it; the last bin has what is at the last edge, too.
func TestRunningIsBelow(t *testing.T) {
	d := dice(176)
	for range 300 {
		edges := d.edges(2 + d.below(50))
		l := d.list(d.below(100), edges)
		h := made(t, edges...)
		for _, x := range l {
			want(t, "Add", h.Add(x), api.OK)
		}
		for i, at := range h.Running() {
			n := 0
			for _, x := range l {
				if !odd(x) && (value(x) < value(edges[i]) || i == len(edges)-1 && value(x) == value(edges[i])) {
					n++
				}
			}
			if at != n {
				t.Errorf("of %x between %x: Running at %d is %d; %d are below", brief(l), brief(edges), i, at, n)
			}
		}
	}
}

// gathered is a list, cut into pieces, each counted on its own, and merged in some order.
func gathered(t *testing.T, d *dice, edges, l []float64) *Hist {
	group := []*Hist{made(t, edges...)}
	for range d.below(5) {
		group = append(group, made(t, edges...))
	}
	for _, x := range l {
		want(t, "Add", group[d.below(len(group))].Add(x), api.OK)
	}
	for len(group) > 1 {
		i := d.below(len(group) - 1)
		want(t, "Merge", group[i].Merge(group[i+1]), api.OK)
		group = slices.Delete(group, i+1, i+2)
	}
	return group[0]
}

// P17.6, P0.1: what a Hist tells hangs on no order, nor on how the numbers were cut and merged.
func TestOrderIsNotSeen(t *testing.T) {
	d := dice(177)
	for range 300 {
		edges := d.edges(2 + d.below(50))
		l := d.list(d.below(100), edges)
		h := made(t, edges...)
		for _, x := range l {
			want(t, "Add", h.Add(x), api.OK)
		}
		is := tellsOf(h)
		for range 4 {
			other := made(t, edges...)
			for _, x := range d.shuffled(l) {
				want(t, "Add", other.Add(x), api.OK)
			}
			tells(t, "in another order", other, is)
			tells(t, "cut and merged", gathered(t, &d, edges, d.shuffled(l)), is)
		}
	}
	edges := nums(0, 1, 2)
	eachList(4, nums(0, 2, -1, hole, inf), func(l []float64) {
		h, back := made(t, edges...), made(t, edges...)
		for i, x := range l {
			h.Add(x)
			back.Add(l[len(l)-1-i])
		}
		tells(t, "from behind", back, tellsOf(h))
	})
}

// P17.2, P17.6: a Hist of edges that Edges tells has each of them in the bin that it begins, the last one in the last bin.
func TestEdgesAreEdges(t *testing.T) {
	d := dice(178)
	for range 200 {
		lo, hi, parts := d.finite(), d.finite(), 1+d.below(100)
		if value(lo) > value(hi) {
			lo, hi = hi, lo
		}
		l, e := Edges(lo, hi, parts)
		if e != api.OK {
			continue
		}
		h := made(t, l...)
		for _, x := range l {
			want(t, "Add", h.Add(x), api.OK)
		}
		is := slices.Repeat(ints(1), parts)
		is[parts-1] = 2
		if got := h.Counts(); !slices.Equal(got, is) {
			t.Errorf("Edges(%x, %x, %d): their Counts are %d", lo, hi, parts, brief(got))
		}
		w := pairUp(t, l, lo, hi, turned(lo), turned(hi))
		w.tells("the ends")
	}
}
