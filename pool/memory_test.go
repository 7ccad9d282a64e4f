package pool

import (
	"math"
	"slices"
	"testing"

	"steelyard/api"
)

// roomy is a list with spare room behind it, which is filled.
func roomy[E any](l []E, fill E) []E {
	room := append(slices.Clone(l), slices.Repeat([]E{fill}, 9)...)
	return room[:len(l)]
}

// bitsOf are a list's, its spare room's too.
func bitsOf(l []float64) []uint64 {
	var all []uint64
	for _, x := range l[:cap(l)] {
		all = append(all, hex(x))
	}
	return all
}

// R2: the list and the schedule stay as they are, the room behind them too.
func TestWhatIsHandedInStays(t *testing.T) {
	d := dice(2331)
	for _, kind := range kinds() {
		l, order := roomy(d.list(23, kind), odds()[5]), roomy(d.order(9), math.MinInt)
		bits, turns := bitsOf(l), slices.Clone(order[:cap(order)])
		for _, size := range []int{1, 2, 5, 22, 23, 24, longest} {
			for mode := range 6 {
				Sum(l, size, 3, order, mode, plain)
				Free(l, size, 3, mode, plain)
				Var(l, size, 3, 1, mode, plain)
				Sum(l, size, 3, order, mode, strict)
				Turns(30, mode, order)
			}
		}
		if !slices.Equal(bitsOf(l), bits) || !slices.Equal(order[:cap(order)], turns) {
			t.Errorf("%x by %d: not as they were", brief(l), order)
		}
	}
}

// R2: what was handed in may be written over afterwards: nobody reads it any more, as a race detector sees.
func TestNothingIsKept(t *testing.T) {
	d := dice(2332)
	l, order := make([]float64, 50), make([]int, 20)
	for i := range 60 {
		copy(l, d.list(len(l), kinds()[i%len(kinds())]))
		copy(order, d.order(len(order)))
		comes(t, l, way{1 + i%7, 1 + i, order}, i%5, policies()[i%9])
		if turned, e := Turns(40, 5, order); e != api.OK || len(turned) != 40 {
			t.Errorf("%d turns, error %d", len(turned), e)
		}
	}
}

// R2, P23.3: what Turns tells is its owner's: writing over it, its spare room too, changes nothing.
func TestTurnsAreNew(t *testing.T) {
	schedule := order(3, -1, 2)
	for _, pieces := range []int{0, 1, 5, 100} {
		first, _ := Turns(pieces, 4, schedule)
		second, _ := Turns(pieces, 4, schedule)
		first = first[:cap(first)]
		for i := range first {
			first[i] = [2]int{-5, -5}
		}
		_ = append(first, [2]int{7, 7})
		for i, turn := range second {
			if turn != [2]int{whose(i, 4, schedule), i} {
				t.Errorf("the turn %d: %d", i, turn)
			}
		}
		turns(t, pieces, 4, schedule)
		if !slices.Equal(schedule, order(3, -1, 2)) {
			t.Errorf("the schedule is %d", schedule)
		}
		schedule[0] = 9
		if len(second) > 0 && second[0] != [2]int{3, 0} {
			t.Errorf("the schedule was written over, and its turns became %d", second[0])
		}
		schedule[0] = 3
	}
}

// R3: no list, and an empty one, are the same; no schedule likewise.
func TestNoneIsEmpty(t *testing.T) {
	empty, none := []float64{}, []int{}
	for mode := range 5 {
		for _, p := range policies() {
			same(t, "of none", []told{
				tell(Sum(nil, 3, 2, nil, mode, p)), tell(Sum(empty, 3, 2, none, mode, p)), tell(Sum(nil, 1, 2, order(1), mode, p)),
				tell(Free(nil, 3, 2, mode, p)), tell(Free(empty, 3, 2, mode, p)),
				tell(Var(nil, 3, 2, 0, mode, p)), tell(Var(empty, 3, 2, 1, mode, p)),
			}, is(0), is(0), is(0), is(0), is(0), not(api.ErrNone), not(api.ErrNone))
			same(t, "by none", []told{tell(Sum(nums(1, 2), 1, 2, nil, mode, p)), tell(Sum(nums(1, 2), 1, 2, none, mode, p))}, is(3), is(3))
		}
	}
}
