package slide

import (
	"testing"

	"steelyard/api"
)

// lists are windows whose asks are refused, or answered, in every way.
func lists(t *testing.T) []*twin {
	t.Helper()
	var l []*twin
	for _, list := range [][]float64{
		nil, nums(1), nums(noughtBelow), nums(hole), nums(inf), nums(-inf), nums(hole, inf), nums(inf, -inf), nums(-inf, hole),
		nums(1, hole), nums(inf, 1), nums(1, 2), nums(hole, hole), nums(1, hole, inf), nums(1, 2, hole, inf, -inf), nums(1, 2, 3),
	} {
		l = append(l, pairUp(t, 5, list...), pairUp(t, max(1, len(list)), append(nums(hole, inf, -inf, 7), list...)...))
	}
	return l
}

// P20.2, R8: what is no mode: ErrArg, whatever else there is.
func TestNoModes(t *testing.T) {
	for _, w := range lists(t) {
		for _, mode := range noModes() {
			for _, p := range append(policies(), noPolicies()...) {
				x, e := w.s.Sum(mode, p)
				refuses(t, "Sum", x, e, api.ErrArg)
				x, e = w.s.Mean(mode, p)
				refuses(t, "Mean", x, e, api.ErrArg)
				for _, less := range append(noLess(), 0, 1) {
					x, e = w.s.Var(less, mode, p)
					refuses(t, "Var", x, e, api.ErrArg)
				}
				w.asks(mode, p)
			}
		}
	}
}

// P20.2, R8: a policy that may not be: ErrArg, whatever else there is.
func TestNoPolicies(t *testing.T) {
	for _, w := range lists(t) {
		for mode := range 5 {
			for _, p := range noPolicies() {
				x, e := w.s.Sum(mode, p)
				refuses(t, "Sum", x, e, api.ErrArg)
				x, e = w.s.Mean(mode, p)
				refuses(t, "Mean", x, e, api.ErrArg)
				for _, less := range append(noLess(), 0, 1) {
					x, e = w.s.Var(less, mode, p)
					refuses(t, "Var", x, e, api.ErrArg)
				}
				w.asks(mode, p)
			}
		}
	}
}

// P20.2: less that is not 0 or 1: ErrArg, ahead of what the list is refused for.
func TestNoLess(t *testing.T) {
	for _, w := range lists(t) {
		for mode := range 5 {
			for _, p := range policies() {
				for _, less := range noLess() {
					x, e := w.s.Var(less, mode, p)
					refuses(t, "Var", x, e, api.ErrArg)
					w.varies(less, mode, p)
				}
			}
		}
	}
}

// P20.2: the errors of the list, and which comes first: ErrNaN, ErrEndless, what is carried, ErrNone.
func TestErrorsOfTheList(t *testing.T) {
	for _, w := range lists(t) {
		w.tells()
	}
	both := api.Policy{NaN: api.Refuse, Inf: api.Refuse}
	noNaN := api.Policy{NaN: api.Refuse, Inf: api.Carry}
	noInf := api.Policy{NaN: api.Carry, Inf: api.Refuse}
	pass := api.Policy{NaN: api.Pass, Inf: api.Pass}
	s := pushed(2, 1, inf, hole)
	for _, p := range []api.Policy{both, noNaN} {
		x, e := s.Sum(0, p)
		refuses(t, "Sum of +Inf, NaN", x, e, api.ErrNaN)
		x, e = s.Mean(0, p)
		refuses(t, "Mean of +Inf, NaN", x, e, api.ErrNaN)
		x, e = s.Var(0, 0, p)
		refuses(t, "Var of +Inf, NaN", x, e, api.ErrNaN)
	}
	x, e := s.Sum(0, noInf)
	refuses(t, "Sum of +Inf, NaN", x, e, api.ErrEndless)
	x, e = s.Mean(0, noInf)
	refuses(t, "Mean of +Inf, NaN", x, e, api.ErrEndless)
	x, e = s.Var(1, 0, noInf)
	refuses(t, "Var of +Inf, NaN", x, e, api.ErrEndless)
	x, e = s.Sum(0, pass)
	want(t, "Sum of none that is left", x, e, 0)
	x, e = s.Mean(0, pass)
	refuses(t, "Mean of none that is left", x, e, api.ErrNone)
	x, e = s.Var(0, 0, pass)
	refuses(t, "Var of none that is left", x, e, api.ErrNone)
}

// P20.2: what is carried is answered ahead of ErrNone; an infinity makes the NaN of a variance.
func TestWhatIsCarried(t *testing.T) {
	for _, x := range nums(inf, -inf) {
		for size := 1; size <= 3; size++ {
			s := pushed(size, often(size+1, x)...)
			got, e := s.Sum(0, plain)
			want(t, "Sum", got, e, x)
			got, e = s.Mean(0, plain)
			want(t, "Mean", got, e, x)
			for less := range 2 {
				got, e = s.Var(less, 0, plain)
				want(t, "Var", got, e, hole)
				got, e = s.Var(less, 0, api.Policy{Inf: api.Pass})
				refuses(t, "Var, passed over", got, e, api.ErrNone)
			}
		}
	}
	for _, x := range odds() {
		s := pushed(2, 1, 2, x)
		got, e := s.Sum(0, plain)
		want(t, "Sum", got, e, hole)
		got, e = s.Mean(0, plain)
		want(t, "Mean", got, e, hole)
		got, e = s.Var(1, 0, plain)
		want(t, "Var", got, e, hole)
		got, e = s.Var(1, 0, api.Policy{NaN: api.Pass})
		refuses(t, "Var of one, less 1", got, e, api.ErrNone)
	}
}

// P20.2: of the empty list.
func TestNone(t *testing.T) {
	for _, size := range []int{1, 2, widest} {
		s := New(size)
		for mode := range 5 {
			for _, p := range policies() {
				x, e := s.Sum(mode, p)
				want(t, "Sum of none", x, e, 0)
				x, e = s.Mean(mode, p)
				refuses(t, "Mean of none", x, e, api.ErrNone)
				x, e = s.Var(0, mode, p)
				refuses(t, "Var of none", x, e, api.ErrNone)
				x, e = s.Var(1, mode, p)
				refuses(t, "Var of none", x, e, api.ErrNone)
			}
		}
	}
}

// R4: what is refused changes nothing.
func TestRefusedChangesNothing(t *testing.T) {
	for _, w := range lists(t) {
		for range 3 {
			w.s.Sum(5, plain)
			w.s.Mean(-1, plain)
			w.s.Var(2, 0, plain)
			w.s.Var(0, 0, api.Policy{NaN: api.Refuse, Inf: api.Refuse})
			w.tells()
			w.push(4)
			w.tells()
		}
	}
}
