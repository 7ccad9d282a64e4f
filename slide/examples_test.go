package slide

import (
	"testing"

	"steelyard/api"
)

// pushed makes one, to which these are pushed.
func pushed(size int, l ...float64) *Slide {
	s := New(size)
	for _, x := range l {
		s.Push(x)
	}
	return s
}

// told puts what is answered into one value, to be held against another.
type told struct {
	bits uint64
	e    api.Errno
}

func tell(x float64, e api.Errno) told { return told{hex(x), e} }

func is(x float64) told { return told{hex(x), api.OK} }

func not(e api.Errno) told { return told{0, e} }

// same fails unless each call answered what stands at its place.
func same(t *testing.T, what string, got []told, want ...told) {
	t.Helper()
	for i := range want {
		if got[i] != want[i] {
			t.Errorf("%s, the answer %d: %x; want %x", what, i, got[i], want[i])
		}
	}
}

func TestExampleNew(t *testing.T) {
	if New(0) != nil || New(4097) != nil {
		t.Error("New(0), New(4097): not nil")
	}
	s := New(2)
	if s.Len() != 0 {
		t.Errorf("Len %d", s.Len())
	}
	same(t, "an empty one", []told{tell(s.Sum(0, plain)), tell(s.Mean(0, plain)), tell(s.Least())}, is(0), not(3), not(3))
}

func TestExampleGone(t *testing.T) {
	s := pushed(2, 1e100, 1)
	same(t, "1e100, 1", []told{tell(s.Sum(0, plain)), tell(s.Most())}, is(1e100), is(1e100))
	s.Push(2)
	same(t, "1, 2", []told{tell(s.Sum(0, plain)), tell(s.Mean(0, plain)), tell(s.Var(0, 0, plain)), tell(s.Least()), tell(s.Most())},
		is(3), is(1.5), is(0.25), is(1), is(2))
	if s.Len() != 2 {
		t.Errorf("Len %d", s.Len())
	}
}

func TestExampleNaN(t *testing.T) {
	s := pushed(2, 1e100, 1, 2, hole)
	same(t, "2, NaN", []told{
		tell(s.Sum(0, plain)), tell(s.Sum(0, api.Policy{NaN: api.Pass})), tell(s.Sum(0, api.Policy{NaN: api.Refuse})), tell(s.Least()),
	}, is(hole), is(2), not(60), is(2))
	s.Push(odds()[9])
	both := api.Policy{NaN: api.Pass, Inf: api.Pass}
	same(t, "NaN, NaN", []told{tell(s.Least()), tell(s.Most()), tell(s.Mean(0, both))}, is(hole), is(hole), not(3))
}

func TestExampleNoughts(t *testing.T) {
	s := pushed(2, 2, hole, hole, noughtBelow, 0)
	same(t, "-0, +0", []told{tell(s.Least()), tell(s.Most()), tell(s.Sum(3, plain)), tell(s.Var(2, 0, plain))},
		is(noughtBelow), is(0), is(noughtBelow), not(1))
}

func TestExampleInfinities(t *testing.T) {
	s := pushed(2, noughtBelow, 0, inf, -inf)
	same(t, "+Inf, -Inf", []told{tell(s.Sum(0, plain)), tell(s.Most())}, is(hole), is(inf))
	s.Push(7)
	same(t, "-Inf, 7", []told{tell(s.Sum(0, plain))}, is(-inf))
}
