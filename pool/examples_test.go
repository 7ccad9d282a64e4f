package pool

import (
	"slices"
	"testing"

	"steelyard/api"
)

// P23.1, P23.2: the chapter's first example: what cancels.
func TestExampleCancels(t *testing.T) {
	l := nums(1, 1e100, 1, -1e100)
	same(t, "1, 1e100, 1, -1e100", []told{
		tell(Sum(l, 1, 2, order(0, 1, 1), 0, plain)), tell(Sum(l, 3, 1, nil, 0, plain)), tell(Free(l, 2, 64, 0, plain)),
	}, is(2), is(2), is(2))
}

// P23.1: its second one: noughts.
func TestExampleNoughts(t *testing.T) {
	same(t, "noughts", []told{
		tell(Sum(nil, 1, 1, nil, 0, plain)), tell(Sum(nums(noughtBelow), 5, 3, order(-1), 0, plain)),
	}, is(0), is(noughtBelow))
}

// P23.1, P23.2: its third one: sizes and workers that may not be.
func TestExampleErrArg(t *testing.T) {
	one := nums(1)
	same(t, "what may not be", []told{
		tell(Sum(one, 0, 1, nil, 0, plain)), tell(Sum(one, 65537, 1, nil, 0, plain)),
		tell(Sum(one, 1, 65, nil, 0, plain)), tell(Free(one, 1, 0, 0, plain)),
	}, not(1), not(1), not(1), not(1))
}

// P23.2: its fourth one: variances.
func TestExampleVar(t *testing.T) {
	same(t, "Var", []told{
		tell(Var(nums(1, 2, 3, 4), 1, 3, 1, 0, plain)), tell(Var(nums(5), 1, 1, 1, 0, plain)), tell(Var(nums(5), 1, 1, 2, 0, plain)),
	}, is(1.6666666666666667), not(3), not(1))
}

// P23.1, P23.2: its fifth one: a NaN that is refused, an infinity that is carried.
func TestExampleSpecials(t *testing.T) {
	same(t, "specials", []told{
		tell(Sum(nums(1, hole), 1, 2, nil, 0, api.Policy{NaN: api.Refuse, Inf: api.Carry})), tell(Free(nums(inf, 1), 1, 2, 0, plain)),
	}, not(60), is(inf))
}

// P23.3: its last one.
func TestExampleTurns(t *testing.T) {
	for _, c := range []struct {
		pieces, workers int
		order           []int
		want            [][2]int
	}{
		{4, 3, order(0, 4, -1), [][2]int{{0, 0}, {1, 1}, {2, 2}, {0, 3}}},
		{2, 2, nil, [][2]int{{0, 0}, {0, 1}}},
		{0, 1, nil, nil},
	} {
		got, e := Turns(c.pieces, c.workers, c.order)
		if e != api.OK || !slices.Equal(got, c.want) {
			t.Errorf("Turns(%d, %d, %d): %d, error %d; want %d", c.pieces, c.workers, c.order, got, e, c.want)
		}
	}
	if got, e := Turns(1, 0, nil); e != api.ErrArg || len(got) != 0 {
		t.Errorf("Turns(1, 0, none): %d, error %d", got, e)
	}
}
