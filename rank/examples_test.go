package rank

import (
	"testing"

	"steelyard/api"
)

func TestExampleSort(t *testing.T) {
	l := nums(3, hole, 0, -inf, noughtBelow, 3)
	lists(t, "Sort", Sort(l), nums(-inf, noughtBelow, 0, 3, 3, hole))
	places(t, "Places", Places(l), []int{3, 5, 2, 0, 1, 4})
}

func TestExampleRanks(t *testing.T) {
	for _, c := range []struct {
		name string
		l    []float64
		tie  int
		is   []float64
		e    api.Errno
	}{
		{"TieLow", nums(7, 5, 7, 7, 9), 0, nums(2, 1, 2, 2, 5), api.OK},
		{"TieHigh", nums(7, 5, 7, 7, 9), 1, nums(4, 1, 4, 4, 5), api.OK},
		{"TieMean", nums(7, 5, 7, 7, 9), 2, nums(3, 1, 3, 3, 5), api.OK},
		{"TieDense", nums(7, 5, 7, 7, 9), 3, nums(2, 1, 2, 2, 3), api.OK},
		{"TieFirst", nums(7, 5, 7, 7, 9), 4, nums(2, 1, 3, 4, 5), api.OK},
		{"1, 1, TieMean", nums(1, 1), 2, nums(1.5, 1.5), api.OK},
		{"the tie 5", nums(7, 5, 7, 7, 9), 5, nil, 1},
	} {
		r, e := Ranks(c.l, c.tie)
		lists(t, c.name, r, c.is)
		if e != c.e {
			t.Errorf("%s: error %d, want %d", c.name, e, c.e)
		}
	}
}

func TestExamplePick(t *testing.T) {
	for _, c := range []struct {
		name  string
		l     []float64
		place int
		is    float64
		e     api.Errno
	}{
		{"of some, -1", nums(4, 2), -1, 0, 1},
		{"of none, -1", nil, -1, 0, 1},
		{"of none, 0", nil, 0, 0, 3},
		{"4, 2, place 1", nums(4, 2), 1, 4, api.OK},
		{"4, 2, place 2", nums(4, 2), 2, 0, 1},
	} {
		x, e := Pick(c.l, c.place)
		answers(t, c.name, x, e, c.is, c.e)
	}
}

func TestExampleMedian(t *testing.T) {
	const next = 1 + 0x1p-52
	for _, c := range []struct {
		name string
		l    []float64
		mode int
		is   float64
		e    api.Errno
	}{
		{"3, 1, 2", nums(3, 1, 2), 0, 2, api.OK},
		{"1, 2", nums(1, 2), 0, 1.5, api.OK},
		{"the greatest twice", nums(greatest, greatest), 0, greatest, api.OK},
		{"1 and 1 + 2^-52, Even", nums(1, next), 0, 1, api.OK},
		{"1 and 1 + 2^-52, Up", nums(1, next), 2, next, api.OK},
		{"-0, -0", nums(noughtBelow, noughtBelow), 0, noughtBelow, api.OK},
		{"-0, +0", nums(noughtBelow, 0), 0, 0, api.OK},
		{"-Inf, 1, 2, +Inf", nums(-inf, 1, 2, inf), 0, 1.5, api.OK},
		{"-Inf, +Inf", nums(-inf, inf), 0, 0, 30},
		{"1, +Inf", nums(1, inf), 0, inf, api.OK},
		{"1, NaN, 2", nums(1, hole, 2), 0, 0, 30},
		{"none", nil, 0, 0, 3},
	} {
		x, e := Median(c.l, c.mode)
		answers(t, c.name, x, e, c.is, c.e)
	}
}
