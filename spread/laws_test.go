package spread

import (
	"math"
	"math/big"
	"testing"

	"steelyard/api"
	"steelyard/dyad"
	"steelyard/super"
)

// told is all that a Spread tells.
type told struct {
	exact  api.Dyad
	parts  []float64
	rounds [5]float64
}

func all(t *testing.T, s *Spread) told {
	t.Helper()
	l := told{exact: s.Exact(), parts: s.Parts()}
	for mode := range l.rounds {
		x, e := s.Round(mode)
		want(t, "Round", e, api.OK)
		l.rounds[mode] = x
	}
	return l
}

func (a told) same(b told) bool {
	return alike(a.exact, b.exact) && sameList(a.parts, b.parts) && sameList(a.rounds[:], b.rounds[:])
}

// P8.5: in another order all that is told is the same.
func TestOrderIsNotSeen(t *testing.T) {
	d := dice(84)
	for n := range 60 {
		l := d.list(n)
		first := all(t, of(l...))
		for range 5 {
			d.shuffle(l)
			if !all(t, of(l...)).same(first) {
				t.Errorf("%x in another order come to something else", l)
			}
		}
	}
}

// P8.5: however numbers are grouped by Merge, all that is told is the same, and as many more may be added.
func TestGroupingIsNotSeen(t *testing.T) {
	d := dice(85)
	for n := range 60 {
		l := d.list(n)
		first := of(l...)
		for range 5 {
			d.shuffle(l)
			groups := []*Spread{New()}
			for _, x := range l {
				if d.below(3) == 0 {
					groups = append(groups, New())
				}
				groups[d.below(len(groups))].Add(x)
			}
			for ; len(groups) > 1; groups = groups[:len(groups)-1] {
				want(t, "Merge", groups[d.below(len(groups)-1)].Merge(groups[len(groups)-1]), api.OK)
			}
			if !all(t, groups[0]).same(all(t, first)) || groups[0].count != first.count {
				t.Errorf("%x in groups come to something else", l)
			}
		}
	}
}

// P8.5: a number that was added n times is told as one that was merged so often.
func TestOften(t *testing.T) {
	for _, x := range edges() {
		for _, n := range []int{1, 2, 3, 10, 255, 1000} {
			s := New()
			for range n {
				s.Add(x)
			}
			if !all(t, s).same(all(t, many(t, n, x).s)) {
				t.Errorf("%d times %x, added and merged, differ", n, x)
			}
		}
	}
}

// P8.5: Parts, added up just so, are the sum; none is a nought; sizes don't rise; the first one is what Round(Even) tells, unless it is the greatest of its sign.
func TestPartsMakeTheSum(t *testing.T) {
	d := dice(86)
	for n := range 600 {
		w := pairUp(t, d.list(n%40)...)
		parts := w.s.Parts()
		sum := new(big.Int)
		for i, x := range parts {
			sum.Add(sum, inUnits(x))
			if x == 0 || i > 0 && math.Abs(x) > math.Abs(parts[i-1]) {
				t.Errorf("part %d of %x", i, parts)
			}
		}
		if sum.Cmp(w.m.units) != 0 {
			t.Errorf("%x are not the sum", parts)
		}
		near, _ := w.s.Round(api.Even)
		switch {
		case len(parts) == 0:
			roundsTo(t, w.s, api.Even, 0)
		case math.Abs(parts[0]) < greatest && parts[0] != near:
			t.Errorf("the first of %x is not %x", parts, near)
		case math.Abs(parts[0]) == greatest && math.Abs(near) < greatest:
			t.Errorf("the greatest is the first, and the nearest is %x", near)
		}
		if !all(t, of(parts...)).same(all(t, w.s)) {
			t.Errorf("%x, added up again, tell something else", parts)
		}
	}
}

// P8.6: Round is chapter 3's of Exact; Up is never below Down; the two are the same, or neighbours.
func TestRoundIsOfExact(t *testing.T) {
	d := dice(87)
	for n := range 600 {
		s := of(d.list(n % 40)...)
		for mode := range 5 {
			is, _ := dyad.Round(s.Exact(), mode)
			roundsTo(t, s, mode, is)
		}
		up, _ := s.Round(api.Up)
		down, _ := s.Round(api.Down)
		if up < down || up != down && math.Nextafter(down, inf) != up {
			t.Errorf("%x up, %x down", up, down)
		}
	}
}

// The accumulator of layer 7 comes to the same sum by other means.
func TestAsWideAccumulator(t *testing.T) {
	d := dice(88)
	for n := range 300 {
		s, acc := New(), super.New()
		for _, x := range d.list(n) {
			s.Add(x)
			acc.Add(x)
		}
		if !alike(s.Exact(), acc.Exact()) {
			t.Errorf("%d numbers: %+v; by words %+v", n, s.Exact(), acc.Exact())
		}
	}
}
