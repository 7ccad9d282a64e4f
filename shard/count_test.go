package shard

import (
	"testing"

	"steelyard/api"
)

// P21.1: New has no numbers, and each one is another one.
func TestNew(t *testing.T) {
	s, other := New(), New()
	tells(t, s, nil)
	other.Add(1)
	tells(t, s, nil)
	tells(t, other, nums(1))
}

// P21.1: Add takes any number, and Count is one more.
func TestAddAny(t *testing.T) {
	s, b := New(), newBook()
	for i, x := range append(append(edges(), odds()...), sorts()...) {
		if e := s.Add(x); e != api.OK || s.Count() != i+1 {
			t.Errorf("Add(%x): error %d, Count %d", x, e, s.Count())
		}
		b.add(x)
		keeps(t, "one more", s, b)
		tells(t, of(x), nums(x))
	}
}

// P21.1: Merge adds all that another one has; that one stays as it is.
func TestMerge(t *testing.T) {
	d := dice(211)
	for _, one := range kinds() {
		for _, two := range kinds() {
			l, m := d.list(d.below(4), one), d.list(d.below(4), two)
			a, b := of(l...), of(m...)
			if e := a.Merge(b); e != api.OK {
				t.Errorf("Merge: error %d", e)
			}
			alike(t, "what was merged stays", b, of(m...))
			alike(t, "both", a, of(append(l, m...)...))
		}
	}
}

// P21.1: Merge with itself: each number twice as often.
func TestMergeWithItself(t *testing.T) {
	d := dice(212)
	for _, kind := range kinds() {
		l := d.list(d.below(5), kind)
		s := of(l...)
		if e := s.Merge(s); e != api.OK {
			t.Errorf("Merge with itself: error %d", e)
		}
		tells(t, s, append(l, l...))
	}
}

// P21.1: Merge with one of no numbers, either way.
func TestMergeWithNone(t *testing.T) {
	for n := range 3 {
		eachList(n, sorts(), func(l []float64) {
			s, none := of(l...), New()
			if e := s.Merge(none); e != api.OK {
				t.Errorf("Merge with none: error %d", e)
			}
			tells(t, s, l)
			tells(t, none, nil)
			if e := none.Merge(s); e != api.OK {
				t.Errorf("none, Merge: error %d", e)
			}
			tells(t, none, l)
		})
	}
}

// doubled is x, 2^n times.
func doubled(t *testing.T, n int, x float64) (*Shard, *book) {
	t.Helper()
	s, b := of(x), newBook(x)
	for i := range n {
		if e := s.Merge(s); e != api.OK || s.Count() != 2<<i {
			t.Fatalf("doubled %d times: error %d, Count %d", i, e, s.Count())
		}
		b.merge(b)
	}
	return s, b
}

// P21.1: Add up to MaxCount, and not past it; what is refused changes nothing.
func TestAddPastTheMost(t *testing.T) {
	for _, x := range sorts() {
		s, b := New(), newBook()
		for i := range 40 {
			part, page := doubled(t, i, x)
			s.Merge(part)
			b.merge(page)
		}
		if s.Count() != most40-1 {
			t.Fatalf("Count %d", s.Count())
		}
		keeps(t, "one below the most", s, b)
		if e := s.Add(1.5); e != api.OK || s.Count() != most40 {
			t.Errorf("the last one: error %d, Count %d", e, s.Count())
		}
		b.add(1.5)
		keeps(t, "the most", s, b)
		for _, y := range sorts() {
			if e := s.Add(y); e != api.ErrLong {
				t.Errorf("one more: error %d", e)
			}
		}
		keeps(t, "what is refused changes nothing", s, b)
		keeps(t, "and as bytes", again(t, s), b)
	}
}

// P21.1: Merge up to MaxCount, and not past it; what is refused changes neither.
func TestMergePastTheMost(t *testing.T) {
	for _, x := range sorts() {
		for _, y := range sorts() {
			half, page := doubled(t, 39, x)
			other, _ := doubled(t, 39, y)
			one := of(y)
			if e := other.Merge(one); e != api.OK {
				t.Errorf("2^39 + 1: error %d", e)
			}
			before := again(t, other)
			if e := half.Merge(other); e != api.ErrLong {
				t.Errorf("2^40 + 1: error %d", e)
			}
			if e := other.Merge(other); e != api.ErrLong {
				t.Errorf("2^40 + 2: error %d", e)
			}
			keeps(t, "what is refused changes nothing", half, page)
			alike(t, "nor the other one", other, before)
			if e := half.Merge(half); e != api.OK || half.Count() != most40 {
				t.Errorf("2^40: error %d, Count %d", e, half.Count())
			}
			page.merge(page)
			keeps(t, "2^40", half, page)
			if e, f, g := half.Merge(one), half.Merge(half), one.Merge(half); e != api.ErrLong || f != api.ErrLong || g != api.ErrLong {
				t.Errorf("past 2^40: errors %d, %d, %d", e, f, g)
			}
			if e := half.Merge(New()); e != api.OK {
				t.Errorf("2^40 with none: error %d", e)
			}
			keeps(t, "2^40, as it was", half, page)
			tells(t, one, nums(y))
		}
	}
}
