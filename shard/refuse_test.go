package shard

import (
	"testing"

	"steelyard/api"
)

// lists are such as are refused, or answered, in every way.
func lists() [][]float64 {
	return [][]float64{
		nil, nums(1), nums(noughtBelow), nums(hole), nums(inf), nums(-inf), nums(hole, inf), nums(inf, -inf), nums(-inf, hole),
		nums(1, hole), nums(inf, 1), nums(1, 2), nums(hole, hole), nums(1, hole, inf), nums(1, 2, hole, inf, -inf), nums(1, 2, 3),
	}
}

// wrong fails unless Sum, Mean, Var are refused with ErrArg, whatever less is, as the layers below refuse it.
func wrong(t *testing.T, l []float64, mode int, p api.Policy) {
	t.Helper()
	s := of(l...)
	x, e := s.Sum(mode, p)
	refuses(t, "Sum", x, e, api.ErrArg)
	x, e = s.Mean(mode, p)
	refuses(t, "Mean", x, e, api.ErrArg)
	for _, less := range append(noLess(), 0, 1) {
		x, e = s.Var(less, mode, p)
		refuses(t, "Var", x, e, api.ErrArg)
	}
	asks(t, s, l, mode, p, 0, 1, 2)
}

// P21.2, R8: what is no mode: ErrArg, whatever else there is.
func TestNoModes(t *testing.T) {
	for _, l := range lists() {
		for _, mode := range noModes() {
			for _, p := range append(policies(), noPolicies()...) {
				wrong(t, l, mode, p)
			}
		}
	}
}

// P21.2, R8: a policy that may not be: ErrArg, whatever else there is.
func TestNoPolicies(t *testing.T) {
	for _, l := range lists() {
		for mode := range 5 {
			for _, p := range noPolicies() {
				wrong(t, l, mode, p)
			}
		}
	}
}

// P21.2: less that is not 0 or 1: ErrArg, ahead of what the list is refused for, and of what is carried.
func TestNoLess(t *testing.T) {
	for _, l := range lists() {
		s := of(l...)
		for mode := range 5 {
			for _, p := range policies() {
				for _, less := range noLess() {
					x, e := s.Var(less, mode, p)
					refuses(t, "Var", x, e, api.ErrArg)
				}
				asks(t, s, l, mode, p, noLess()...)
			}
		}
	}
}

// P21.2: the errors of the list, and which comes first: ErrNaN, ErrEndless, what is carried, ErrNone.
func TestErrorsOfTheList(t *testing.T) {
	for _, l := range lists() {
		tells(t, of(l...), l)
	}
	s := of(inf, hole)
	three := func(p api.Policy) []told {
		return []told{tell(s.Sum(0, p)), tell(s.Mean(0, p)), tell(s.Var(0, 0, p)), tell(s.Var(1, 0, p))}
	}
	same(t, "both refused", three(api.Policy{NaN: api.Refuse, Inf: api.Refuse}), not(60), not(60), not(60), not(60))
	same(t, "a NaN refused", three(api.Policy{NaN: api.Refuse, Inf: api.Carry}), not(60), not(60), not(60), not(60))
	same(t, "an infinity refused", three(api.Policy{NaN: api.Carry, Inf: api.Refuse}), not(61), not(61), not(61), not(61))
	same(t, "both passed over", three(api.Policy{NaN: api.Pass, Inf: api.Pass}), is(0), not(3), not(3), not(3))
	same(t, "an infinity carried", three(api.Policy{NaN: api.Pass, Inf: api.Carry}), is(inf), is(inf), is(hole), is(hole))
	same(t, "a NaN carried", three(api.Policy{NaN: api.Carry, Inf: api.Pass}), is(hole), is(hole), is(hole), is(hole))
}

// P21.2: what is carried is answered ahead of ErrNone, with the bits of the one NaN.
func TestWhatIsCarried(t *testing.T) {
	for _, x := range odds() {
		s := of(x)
		same(t, "NaN alone", []told{tell(s.Sum(0, carry)), tell(s.Mean(0, carry)), tell(s.Var(1, 0, carry))}, is(hole), is(hole), is(hole))
	}
	for _, x := range nums(inf, -inf) {
		s := of(x)
		same(t, "an infinity alone", []told{tell(s.Sum(0, carry)), tell(s.Mean(0, carry)), tell(s.Var(1, 0, carry))}, is(x), is(x), is(hole))
	}
	s := of(inf, -inf)
	same(t, "both infinities", []told{tell(s.Sum(0, carry)), tell(s.Mean(0, carry)), tell(s.Var(1, 0, carry))}, is(hole), is(hole), is(hole))
}

// R4: what is refused changes nothing.
func TestRefusedChangesNothing(t *testing.T) {
	for _, l := range lists() {
		s := of(l...)
		s.Sum(5, carry)
		s.Mean(-1, carry)
		s.Var(2, 0, carry)
		s.Var(0, 0, api.Policy{NaN: api.Refuse, Inf: api.Refuse})
		tells(t, s, l)
		s.Add(4)
		tells(t, s, append(l, 4))
	}
}
