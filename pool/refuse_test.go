package pool

import (
	"slices"
	"testing"

	"steelyard/api"
)

// lists are such as are refused, or answered, in every way: too long ones, too.
func lists() [][]float64 {
	return [][]float64{
		nil, {}, nums(1), nums(noughtBelow), nums(hole), nums(inf), nums(-inf), nums(hole, inf), nums(inf, -inf), nums(-inf, hole),
		nums(1, hole), nums(inf, 1), nums(1, 2), nums(1, hole, inf), nums(1, 2, hole, inf, -inf), nums(1, 2, 3), often(longest+1, hole),
	}
}

// refuses fails unless all of Sum, Free and Var are refused with just this error.
func refuses(t *testing.T, what string, l []float64, w way, mode int, p api.Policy, want api.Errno) {
	t.Helper()
	same(t, what, []told{
		tell(Sum(l, w.size, w.workers, w.order, mode, p)), tell(Free(l, w.size, w.workers, mode, p)),
		tell(Var(l, w.size, w.workers, 0, mode, p)), tell(Var(l, w.size, w.workers, 1, mode, p)),
	}, not(want), not(want), not(want), not(want))
}

// P23.1, P23.2, R8: what is no mode: ErrArg, whatever else there is.
func TestNoModes(t *testing.T) {
	for _, l := range lists() {
		for _, mode := range noModes() {
			for _, p := range append(policies(), noPolicies()...) {
				refuses(t, "no mode", l, way{1, 2, order(0, 1)}, mode, p, api.ErrArg)
			}
			refuses(t, "no mode, no size", l, way{0, 2, nil}, mode, plain, api.ErrArg)
		}
	}
}

// P23.1, P23.2, R8: a policy that may not be: ErrArg, whatever else there is.
func TestNoPolicies(t *testing.T) {
	for _, l := range lists() {
		for mode := range 5 {
			for _, p := range noPolicies() {
				refuses(t, "no policy", l, way{2, 3, nil}, mode, p, api.ErrArg)
			}
		}
	}
}

// P23.1, P23.2: a size that may not be: ErrArg, ahead of what the list is refused for, and of what is carried.
func TestNoSizes(t *testing.T) {
	for _, l := range lists() {
		for _, size := range noSizes() {
			for _, p := range policies() {
				refuses(t, "no size", l, way{size, 2, order(1)}, api.Up, p, api.ErrArg)
			}
			refuses(t, "no size, no workers", l, way{size, 0, nil}, api.Even, plain, api.ErrArg)
		}
	}
}

// P23.1, P23.2: workers that may not be: likewise.
func TestNoWorkers(t *testing.T) {
	for _, l := range lists() {
		for _, workers := range noWorkers() {
			for _, p := range policies() {
				refuses(t, "no workers", l, way{1, workers, order(1)}, api.Zero, p, api.ErrArg)
			}
		}
	}
}

// P23.2: less that is not 0 or 1: likewise.
func TestNoLess(t *testing.T) {
	for _, l := range lists() {
		for _, less := range noLess() {
			for _, p := range append(policies(), noPolicies()...) {
				same(t, "no less", []told{tell(Var(l, 1, 2, less, api.Even, p))}, not(api.ErrArg))
			}
			same(t, "no less", []told{
				tell(Var(l, 0, 2, less, api.Even, plain)), tell(Var(l, 1, 65, less, api.Even, plain)), tell(Var(l, 1, 1, less, 5, plain)),
			}, not(api.ErrArg), not(api.ErrArg), not(api.ErrArg))
		}
	}
}

// P23.1, P23.2, R10: ErrLong of more than MaxList numbers, ahead of what these are refused for, and of what is carried.
func TestTooLong(t *testing.T) {
	for _, x := range sorts() {
		for _, n := range []int{longest + 1, longest + 2, 2 * longest} {
			for _, p := range policies() {
				refuses(t, "too long", often(n, x), way{longest, 3, order(0, 1)}, api.Even, p, api.ErrLong)
			}
		}
	}
	l := append(often(longest, 1), hole)
	refuses(t, "too long by the one that is refused", l, way{1, 1, nil}, api.Even, strict, api.ErrLong)
	everyWay(t, nums(1), way{1, 1, nil})
}

// P23.1, P23.2: which error of a list comes first, wherever in it that stands, and whoever finds it: ErrNaN, ErrEndless, what is carried, ErrNone.
func TestErrorsOfTheList(t *testing.T) {
	for _, l := range lists() {
		if len(l) > longest {
			continue
		}
		for _, size := range []int{1, 2, longest} {
			for _, workers := range []int{1, 2, most} {
				everyWay(t, l, way{size, workers, order(1, 0)})
			}
		}
	}
	w := way{1, 2, order(0, 1)}
	for _, l := range [][]float64{nums(inf, hole), nums(hole, inf), nums(1, inf, 2, 3, -inf, hole)} {
		refuses(t, "both", l, w, api.Even, strict, api.ErrNaN)
		refuses(t, "the NaN", l, w, api.Even, api.Policy{NaN: api.Refuse, Inf: api.Carry}, api.ErrNaN)
		refuses(t, "the infinity", l, w, api.Even, api.Policy{NaN: api.Carry, Inf: api.Refuse}, api.ErrEndless)
		refuses(t, "the infinity", l, w, api.Even, api.Policy{NaN: api.Pass, Inf: api.Refuse}, api.ErrEndless)
	}
	pass := api.Policy{NaN: api.Pass, Inf: api.Pass}
	same(t, "none is left", []told{
		tell(Var(nums(inf, hole), 1, 2, 0, 0, pass)), tell(Var(nums(inf, hole), 1, 2, 0, 0, plain)), tell(Var(nums(5, inf), 1, 1, 1, 0, plain)),
		tell(Var(nil, 1, 1, 0, 0, plain)), tell(Var(nums(5, inf), 1, 1, 0, 0, pass)), tell(Var(nums(5, inf), 1, 1, 1, 0, pass)),
		tell(Var(nums(hole), 1, 2, 1, 0, plain)), tell(Sum(nums(inf, hole), 1, 2, nil, 0, pass)), tell(Free(nums(inf, hole), 1, 2, 0, pass)),
	}, not(3), is(hole), is(hole), not(3), is(0), not(3), is(hole), is(0), is(0))
}

// P23.1, R2: what is carried is the one NaN, whatever bits there were.
func TestOneNaN(t *testing.T) {
	for _, x := range append(odds(), hole) {
		l := nums(1, x, inf)
		for _, w := range []way{{1, 1, nil}, {1, 3, order(2, 1, 0)}, {3, 2, nil}} {
			same(t, "one NaN", []told{
				tell(Sum(l, w.size, w.workers, w.order, 0, plain)), tell(Free(l, w.size, w.workers, 0, plain)),
				tell(Var(l, w.size, w.workers, 1, 0, plain)), tell(Var(nums(x), w.size, w.workers, 1, 0, plain)),
			}, is(hole), is(hole), is(hole), is(hole))
		}
	}
}

// R6: a call that was refused leaves nothing behind.
func TestRefusedLeavesNothing(t *testing.T) {
	l := nums(1, 2, hole)
	for range 5 {
		Sum(l, 1, 2, nil, 0, strict)
		Free(l, 1, 2, 0, strict)
		Var(l, 0, 2, 0, 0, plain)
		Sum(l, 1, 65, nil, 0, plain)
		comes(t, slices.Clone(l[:2]), way{1, 2, nil}, api.Even, strict)
	}
}
