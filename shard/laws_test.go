package shard

import (
	"bytes"
	"math"
	"slices"
	"sync"
	"testing"

	"steelyard/api"
)

// through is the shard itself, or, every other time, the one that is read of its bytes.
func through(t *testing.T, d *dice, s *Shard) *Shard {
	t.Helper()
	if d.below(2) == 0 {
		return s
	}
	return again(t, s)
}

// What follows: short lists, cut into three parts in every way, merged in every order and both groupings, with bytes between.
func TestCutInEveryWay(t *testing.T) {
	d := dice(221)
	orders := [][3]int{{0, 1, 2}, {0, 2, 1}, {1, 0, 2}, {1, 2, 0}, {2, 0, 1}, {2, 1, 0}}
	for _, kind := range kinds() {
		l := d.list(5, kind)
		is := of(l...).Encode()
		eachList(len(l), nums(0, 1, 2), func(part []float64) {
			var parts [3][]float64
			for i, x := range l {
				at := int(part[i])
				parts[at] = append(parts[at], x)
			}
			for _, o := range orders {
				a, b, c := of(d.shuffled(parts[o[0]])...), of(parts[o[1]]...), of(parts[o[2]]...)
				left := merged(t, merged(t, through(t, &d, a), b), through(t, &d, c))
				right := merged(t, a, through(t, &d, merged(t, b, through(t, &d, c))))
				if !bytes.Equal(left.Encode(), is) || !bytes.Equal(right.Encode(), is) {
					t.Errorf("%x, cut as %v, in the order %v: other bytes", l, part, o)
				}
			}
		})
	}
}

// heaped is the list, cut into parts, each added to a shard of its own, of which two at a time are merged till one is left.
func heaped(t *testing.T, d *dice, l []float64, parts int) *Shard {
	t.Helper()
	heap := make([]*Shard, parts)
	for i := range heap {
		heap[i] = New()
	}
	for _, x := range d.shuffled(l) {
		if e := heap[d.below(parts)].Add(x); e != api.OK {
			t.Errorf("Add(%x): error %d", x, e)
		}
	}
	for len(heap) > 1 {
		i := d.below(len(heap))
		one := heap[i]
		heap = slices.Delete(heap, i, i+1)
		j := d.below(len(heap))
		if e := heap[j].Merge(through(t, d, one)); e != api.OK {
			t.Errorf("Merge: error %d", e)
		}
		heap[j] = through(t, d, heap[j])
	}
	return heap[0]
}

// What follows: lists of all kinds, cut into any parts, merged in any order and grouping: what is told is what the list tells.
func TestCutInAnyWay(t *testing.T) {
	d := dice(222)
	for _, kind := range kinds() {
		for _, n := range []int{1, 2, 7, 40} {
			l := d.list(n, kind)
			whole := of(l...)
			tells(t, whole, l)
			for range 4 {
				s := heaped(t, &d, l, 1+d.below(9))
				alike(t, "cut and merged", s, whole)
			}
		}
		l := d.list(500, kind)
		s := heaped(t, &d, l, 20)
		tells(t, s, l)
	}
}

// What follows: a list as long as may be.
func TestTheLongestListCut(t *testing.T) {
	d := dice(223)
	l := d.list(longest, func(d *dice) float64 { return d.sized(-20, 20) })
	l[d.below(longest)] = greatest
	l[d.below(longest)] = -tiny
	s := heaped(t, &d, l, 100)
	asks(t, s, l, api.Even, carry, 0, 1)
	asks(t, s, l, api.Down, carry, 0)
	alike(t, "cut and merged", s, of(l...))
}

// What follows: Decode of Encode goes on the same, whatever comes then.
func TestGoesOnTheSame(t *testing.T) {
	d := dice(224)
	for _, kind := range kinds() {
		a := of(d.list(d.below(5), kind)...)
		b := again(t, a)
		for range 6 {
			next := kinds()[d.below(len(kinds()))]
			if d.below(2) == 0 {
				x := next(&d)
				a.Add(x)
				b.Add(x)
			} else {
				o := of(d.list(d.below(4), next)...)
				a.Merge(o)
				b.Merge(again(t, o))
			}
			alike(t, "goes on", a, b)
		}
		a.Merge(a)
		b.Merge(b)
		alike(t, "with itself", a, b)
	}
}

// P0.3: what is kept is enough: numbers of one power of two each are told apart by the sum.
func TestNothingIsLost(t *testing.T) {
	s, b := New(), newBook()
	for exp := -1074; exp <= 1023; exp++ {
		x := math.Ldexp(1-2*float64(exp&1), exp)
		s.Add(x)
		b.add(x)
	}
	keeps(t, "all powers of two", s, b)
	for exp := -1074; exp < 1023; exp++ {
		x := -math.Ldexp(1-2*float64(exp&1), exp)
		s.Add(x)
		b.add(x)
	}
	keeps(t, "but one they cancel", s, b)
	x, e := s.Sum(api.Even, carry)
	want(t, "what is left", x, e, -0x1p1023)
}

// Several shards at once have nothing in common.
func TestNothingInCommon(t *testing.T) {
	d := dice(225)
	var group []*Shard
	var has [][]float64
	for range 8 {
		group, has = append(group, New()), append(has, nil)
	}
	for range 200 {
		i, j := d.below(len(group)), d.below(len(group))
		switch x := d.any(); {
		case d.below(5) > 0:
			group[i].Add(x)
			has[i] = append(has[i], x)
		case len(has[i])+len(has[j]) < 40:
			group[i].Merge(group[j])
			has[i] = slices.Concat(has[i], has[j])
		default:
			group[i], has[i] = again(t, group[j]), slices.Clone(has[j])
		}
		for n, s := range group {
			if !bytes.Equal(s.Encode(), newBook(has[n]...).layout().bytes()) {
				t.Fatalf("the shard %d has other bytes", n)
			}
		}
	}
	for n, s := range group {
		tells(t, s, has[n])
	}
}

// Likewise where they are filled, each by a goroutine of its own, and merged then.
func TestSideBySide(t *testing.T) {
	d := dice(226)
	l := d.list(800, (*dice).any)
	group := make([]*Shard, 8)
	var all sync.WaitGroup
	for i := range group {
		all.Go(func() {
			s := of(l[100*i : 100*i+100]...)
			group[i], _ = Decode(s.Encode())
		})
	}
	all.Wait()
	alike(t, "side by side", merged(t, group...), of(l...))
}
