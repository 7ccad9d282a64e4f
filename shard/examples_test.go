package shard

import (
	"bytes"
	"slices"
	"testing"

	"steelyard/api"
)

func is(x float64) told { return told{hex(x), api.OK} }

func not(e api.Errno) told { return told{0, e} }

// same fails unless each call answered what stands at its place.
func same(t *testing.T, what string, got []told, want ...told) {
	t.Helper()
	for i := range want {
		if got[i] != want[i] {
			t.Errorf("%s, the answer %d: %x; want %x", what, i, got[i], want[i])
		}
	}
}

// ofNone and ofTwo are the bytes that the chapter tells of no numbers, and of 1 and 3.
func ofNone() []byte { return append(make([]byte, 48), 0, 0, 16, 0, 0, 0, 0, 16, 0, 0) }

func ofTwo() []byte {
	return slices.Concat(
		make([]byte, 40), []byte{2, 0, 0, 0, 0, 0, 0, 0},
		[]byte{0, 2, 16, 1, 0, 1, 0, 0, 0},
		[]byte{0, 1, 16, 1, 0, 5, 0, 0, 0},
		[]byte{0, 0, 0, 0, 0, 0, 240, 63}, []byte{0, 0, 0, 0, 0, 0, 8, 64},
	)
}

func TestExample1(t *testing.T) {
	s := New()
	if s.Count() != 0 {
		t.Errorf("Count %d", s.Count())
	}
	same(t, "of none", []told{tell(s.Sum(0, carry)), tell(s.Mean(0, carry)), tell(s.Var(0, 0, carry)), tell(s.Least()), tell(s.Most())},
		is(0), not(3), not(3), not(3), not(3))
	if b := s.Encode(); len(b) != 58 || !bytes.Equal(b, ofNone()) {
		t.Errorf("Encode: %v", b)
	}
}

func TestExample2(t *testing.T) {
	s := of(1, 3)
	same(t, "1, 3", []told{tell(s.Sum(0, carry)), tell(s.Mean(0, carry)), tell(s.Var(0, 0, carry)), tell(s.Var(1, 0, carry)), tell(s.Least()), tell(s.Most())},
		is(4), is(2), is(1), is(2), is(1), is(3))
	if b := s.Encode(); len(b) != 82 || !bytes.Equal(b, ofTwo()) {
		t.Errorf("Encode: %v", b)
	}
}

func TestExample3(t *testing.T) {
	s := of(1, 3, hole)
	pass, refuse := api.Policy{NaN: api.Pass}, api.Policy{NaN: api.Refuse}
	three := func(s *Shard, p api.Policy) []told {
		return []told{tell(s.Sum(0, p)), tell(s.Mean(0, p)), tell(s.Var(0, 0, p)), tell(s.Var(1, 0, p))}
	}
	same(t, "carried", three(s, carry), is(hole), is(hole), is(hole), is(hole))
	same(t, "passed over", three(s, pass), is(4), is(2), is(1), is(2))
	same(t, "refused", three(s, refuse), not(60), not(60), not(60), not(60))
	same(t, "the ends", []told{tell(s.Least()), tell(s.Most())}, is(1), is(3))
	s = of(hole)
	same(t, "of NaN alone", []told{tell(s.Least()), tell(s.Mean(0, pass)), tell(s.Sum(0, pass))}, is(hole), not(3), is(0))
}

func TestExample4(t *testing.T) {
	s := of(noughtBelow)
	same(t, "-0 alone", []told{tell(s.Sum(0, carry)), tell(s.Mean(0, carry)), tell(s.Var(0, 0, carry)), tell(s.Var(1, 0, carry)), tell(s.Least()), tell(s.Most())},
		is(noughtBelow), is(noughtBelow), is(0), not(3), is(noughtBelow), is(noughtBelow))
	s.Add(0)
	same(t, "+0 beside", []told{tell(s.Sum(0, carry)), tell(s.Sum(api.Down, carry)), tell(s.Least()), tell(s.Most())},
		is(0), is(noughtBelow), is(noughtBelow), is(0))
}

func TestExample5(t *testing.T) {
	with := func(at int, c byte) []byte {
		b := ofTwo()
		b[at] = c
		return b
	}
	two := ofTwo()
	for what, b := range map[string][]byte{
		"none": nil, "58 noughts": make([]byte, 58), "a byte more": append(ofTwo(), 0), "All 1": with(40, 1),
		"4 for 5": with(62, 4), "3 for 5": with(62, 3), "1 and 3 changed about": slices.Concat(two[:66], two[74:], two[66:74]),
	} {
		if s, e := Decode(b); s != nil || e != api.ErrShard {
			t.Errorf("%s: %v, error %d", what, s, e)
		}
	}
	if _, e := Decode(two); e != api.OK {
		t.Errorf("as they are: error %d", e)
	}
}

func TestExample6(t *testing.T) {
	s := of(1)
	for range 40 {
		if e := s.Merge(s); e != api.OK {
			t.Fatalf("Merge with itself: error %d", e)
		}
	}
	if s.Count() != most40 {
		t.Errorf("Count %d", s.Count())
	}
	same(t, "2^40 times 1", []told{tell(s.Sum(0, carry)), tell(s.Mean(0, carry)), tell(s.Var(1, 0, carry))}, is(most40), is(1), is(0))
	if e, f := s.Add(1), s.Merge(s); e != api.ErrLong || f != api.ErrLong {
		t.Errorf("Add, Merge past 2^40: errors %d, %d", e, f)
	}
}

// The tenth example of the whole: a shard of 1, 2 and one of 3, merged either way.
func TestExampleOfTheWhole(t *testing.T) {
	a, b := merged(t, of(1, 2), of(3)), merged(t, of(3), of(1, 2))
	alike(t, "either way", a, b)
	alike(t, "all in one", a, of(3, 1, 2))
}
