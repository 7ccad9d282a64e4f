package hist

import (
	"fmt"
	"testing"

	"steelyard/api"
)

// counted fails unless a number alone comes just there: -1 is below, the number of bins above, one more odd.
func counted(t *testing.T, edges []float64, x float64, at int) {
	t.Helper()
	h := made(t, edges...)
	want(t, "Add", h.Add(x), api.OK)
	is := told{counts: make([]int, len(edges)-1), running: make([]int, len(edges)), all: 1}
	switch {
	case at < 0:
		is.below = 1
	case at == len(is.counts):
		is.above = 1
	case at > len(is.counts):
		is.odd = 1
	default:
		is.counts[at] = 1
	}
	for i := range is.running {
		if at < i {
			is.running[i] = 1
		}
	}
	tells(t, fmt.Sprintf("%x between %x", x, brief(edges)), h, is)
}

// P17.3: at each edge, just below it and just above it: a bin has its lower edge, and not its upper one, but the last bin, which has both.
func TestAddAtEdges(t *testing.T) {
	for _, l := range [][]float64{
		{0, 1}, {-1, 1}, {0, 1, 2}, {-3, -2, -1}, {-greatest, greatest}, {-greatest, -1, 0, 1, greatest}, {-normal, 0.1, 0x1p53, 1e300},
		{-least - normal, -3 * least, 3 * least, normal + least}, rising(100), rising(widest),
	} {
		last := len(l) - 1
		for i, x := range l {
			counted(t, l, prev(x), i-1)
			counted(t, l, x, min(i, last-1))
			counted(t, l, next(x), i)
			if i < last {
				counted(t, l, x/2+l[i+1]/2, i)
			}
		}
		for _, x := range odds() {
			counted(t, l, x, last+1)
		}
		counted(t, l, inf, last)
		counted(t, l, -inf, -1)
	}
}

// P17.3: bins that hold one number, or two, and no more.
func TestAddInNarrowBins(t *testing.T) {
	for _, x := range []float64{-greatest, -1, -2 * least, -least, 0, 1, 0x1p53, prev(prev(greatest))} {
		one := nums(x, next(x))
		counted(t, one, prev(x), -1)
		counted(t, one, x, 0)
		counted(t, one, next(x), 0)
		counted(t, one, next(next(x)), 1)
		two := nums(x, next(x), next(next(x)))
		counted(t, two, prev(x), -1)
		counted(t, two, x, 0)
		counted(t, two, next(x), 1)
		counted(t, two, next(next(x)), 1)
		counted(t, two, next(next(next(x))), 2)
	}
}

// P17.3: both noughts are one value: at an edge of either nought, at the first, in the midst, in the last bin's upper one.
func TestAddNoughts(t *testing.T) {
	for _, edge := range nums(0, noughtBelow) {
		for _, x := range nums(0, noughtBelow) {
			counted(t, nums(edge, 1), x, 0)
			counted(t, nums(edge, least), x, 0)
			counted(t, nums(-1, edge), x, 0)
			counted(t, nums(-least, edge), x, 0)
			counted(t, nums(-1, edge, 1), x, 1)
			counted(t, nums(-least, edge, least), x, 1)
			counted(t, nums(-2, -1, edge), x, 1)
			counted(t, nums(-2, -1, edge, 1, 2), x, 2)
		}
		counted(t, nums(edge, 1), -least, -1)
		counted(t, nums(edge, 1), least, 0)
		counted(t, nums(-1, edge), least, 1)
		counted(t, nums(-1, edge), -least, 0)
		counted(t, nums(-1, edge, 1), -least, 0)
		counted(t, nums(-1, edge, 1), least, 1)
	}
	for _, x := range nums(0, noughtBelow) {
		counted(t, nums(least, 1), x, -1)
		counted(t, nums(-1, -least), x, 1)
		counted(t, nums(-least, least), x, 0)
	}
}

// P17.3: infinities lie below and above, also of edges that reach as far as numbers do.
func TestAddOutside(t *testing.T) {
	wide := nums(-greatest, 0, greatest)
	counted(t, wide, inf, 2)
	counted(t, wide, -inf, -1)
	counted(t, wide, greatest, 1)
	counted(t, wide, -greatest, 0)
	h := made(t, wide...)
	for i := range 30 {
		for _, x := range nums(inf, -inf, -inf, hole, hole, hole) {
			want(t, "Add", h.Add(x), api.OK)
		}
		n := i + 1
		tells(t, "outside", h, told{counts: ints(0, 0), below: 2 * n, above: n, odd: 3 * n, all: 6 * n, running: ints(2*n, 2*n, 2*n)})
	}
}

// P17.3: each number is counted once, among others.
func TestAddOfManyLists(t *testing.T) {
	d := dice(173)
	for range 600 {
		edges := d.edges(2 + d.below(40))
		w := pairUp(t, edges)
		for _, x := range d.list(d.below(60), edges) {
			w.add(x)
			if d.below(8) == 0 {
				w.tells("on the way")
			}
		}
		w.tells("a list")
	}
	for range 4 {
		edges := d.edges(20 * widest)
		if len(edges) > widest {
			edges = edges[:widest]
		}
		pairUp(t, edges, d.list(3000, edges)...).tells("many edges")
	}
}

// sorts are one of each: in a bin, in another one, below, above, odd, both infinities.
func sorts() []float64 { return nums(0.5, 2, -1, 3, hole, inf, -inf) }

// P17.3: with MaxCount numbers of whatever sorts each more is refused, of whatever sort, and all stays as it was.
func TestAddLong(t *testing.T) {
	edges := nums(0, 1, 2)
	rows := [][]float64{sorts()}
	for _, x := range sorts() {
		rows = append(rows, nums(x))
	}
	for _, row := range rows {
		w := many(t, edges, most-2, row...)
		for _, x := range sorts()[:2] {
			want(t, "one that there is room for", w.add(x), api.OK)
		}
		w.tells("full")
		for _, x := range append(sorts(), append(ends(), odds()...)...) {
			want(t, "one too many", w.add(x), api.ErrLong)
		}
		w.tells("full, and asked for more")
	}
	for _, x := range sorts() {
		w := many(t, edges, most-1, sorts()...)
		want(t, "the last one", w.add(x), api.OK)
		want(t, "one too many", w.add(x), api.ErrLong)
		w.tells("full")
		if w.h.All() != most {
			t.Errorf("All %d", w.h.All())
		}
	}
}
