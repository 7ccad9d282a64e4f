package shard

import (
	"math"
	"testing"

	"steelyard/api"
)

// endsAt fails unless Least and Most answer these.
func endsAt(t *testing.T, what string, s *Shard, low, high float64) {
	t.Helper()
	x, e := s.Least()
	want(t, what+": Least", x, e, low)
	x, e = s.Most()
	want(t, what+": Most", x, e, high)
}

// P21.3: of no numbers there is none.
func TestEndsOfNone(t *testing.T) {
	for _, s := range []*Shard{New(), merged(t, New(), New()), again(t, New())} {
		x, e := s.Least()
		refuses(t, "Least of none", x, e, api.ErrNone)
		x, e = s.Most()
		refuses(t, "Most of none", x, e, api.ErrNone)
	}
}

// P21.3: of NaN alone it is the one that is answered, whatever bits they have; beside others they are passed over.
func TestEndsOfNaN(t *testing.T) {
	for _, x := range odds() {
		s := of(x)
		endsAt(t, "a NaN", s, hole, hole)
		endsAt(t, "a NaN as bytes", again(t, s), hole, hole)
		s.Add(x)
		endsAt(t, "NaN alone", s, hole, hole)
		for _, y := range edges() {
			endsAt(t, "behind a NaN", of(x, y), y, y)
			endsAt(t, "ahead of a NaN", of(y, x), y, y)
			endsAt(t, "merged with a NaN", merged(t, of(x), of(y), of(x)), y, y)
		}
	}
}

// P21.3: by the total order, and with their own bits: -0 is ahead of +0.
func TestEndsByTheTotalOrder(t *testing.T) {
	for _, x := range edges() {
		for _, y := range edges() {
			low, high := x, y
			if x > y || x == y && math.Signbit(y) {
				low, high = y, x
			}
			endsAt(t, "two", of(x, y), low, high)
			endsAt(t, "merged", merged(t, of(x), of(y)), low, high)
			endsAt(t, "read, and merged", merged(t, again(t, of(x)), again(t, of(hole, y))), low, high)
		}
	}
	endsAt(t, "-0, +0", of(noughtBelow, 0), noughtBelow, 0)
	endsAt(t, "+0, -0", of(0, noughtBelow), noughtBelow, 0)
	endsAt(t, "-0, -0", of(noughtBelow, noughtBelow), noughtBelow, noughtBelow)
	endsAt(t, "+0, +0", of(0, 0), 0, 0)
	endsAt(t, "equal ones", of(3, 3, 3), 3, 3)
	endsAt(t, "all kinds", of(edges()...), -inf, inf)
}

// P21.3: rows of all kinds, behind each number.
func TestEndsOfRows(t *testing.T) {
	d := dice(216)
	for _, kind := range kinds() {
		s := New()
		l := d.list(80, kind)
		for i, x := range l {
			s.Add(x)
			if got, is := tell(s.Least()), outdone(l[:i+1], -1); got != is {
				t.Errorf("Least of %x: %x; want %x", brief(l), got, is)
			}
			if got, is := tell(s.Most()), outdone(l[:i+1], 1); got != is {
				t.Errorf("Most of %x: %x; want %x", brief(l), got, is)
			}
		}
	}
}
