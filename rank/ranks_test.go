package rank

import (
	"fmt"
	"math"
	"testing"

	"steelyard/api"
)

// ranksAre holds the ranks of every tie against those by counting.
func ranksAre(t *testing.T, l []float64, all []stand) {
	t.Helper()
	for tie := range 5 {
		r, e := Ranks(l, tie)
		lists(t, fmt.Sprintf("Ranks of %d numbers, %x, tie %d", len(l), brief(l), tie), r, ranksBy(all, tie))
		if e != api.OK {
			t.Errorf("Ranks of %d numbers, tie %d: error %d", len(l), tie, e)
		}
	}
}

// P15.2: by hand, by every tie: alike numbers in twos and threes, NaN that are alike, both noughts that are not.
func TestRanksByHand(t *testing.T) {
	other := math.Float64frombits(0xFFFFFFFFFFFFFFFF)
	for _, c := range []struct {
		name                          string
		l                             []float64
		low, high, mean, dense, first []float64
	}{
		{"none", nil, nil, nil, nil, nil, nil},
		{"one", nums(-3), nums(1), nums(1), nums(1), nums(1), nums(1)},
		{"one NaN", nums(other), nums(1), nums(1), nums(1), nums(1), nums(1)},
		{"two", nums(2, 1), nums(2, 1), nums(2, 1), nums(2, 1), nums(2, 1), nums(2, 1)},
		{"two that are alike", nums(4, 4), nums(1, 1), nums(2, 2), nums(1.5, 1.5), nums(1, 1), nums(1, 2)},
		{"three that are alike", nums(4, 4, 4), nums(1, 1, 1), nums(3, 3, 3), nums(2, 2, 2), nums(1, 1, 1), nums(1, 2, 3)},
		{"four that are alike", often(4, inf), often(4, 1), often(4, 4), often(4, 2.5), often(4, 1), nums(1, 2, 3, 4)},
		{"twos and threes", nums(9, 1, 5, 9, 5, 1, 9), nums(5, 1, 3, 5, 3, 1, 5), nums(7, 2, 4, 7, 4, 2, 7), nums(6, 1.5, 3.5, 6, 3.5, 1.5, 6), nums(3, 1, 2, 3, 2, 1, 3), nums(5, 1, 3, 6, 4, 2, 7)},
		{"both noughts", nums(0, noughtBelow), nums(2, 1), nums(2, 1), nums(2, 1), nums(2, 1), nums(2, 1)},
		{"noughts in twos", nums(0, noughtBelow, 0, noughtBelow), nums(3, 1, 3, 1), nums(4, 2, 4, 2), nums(3.5, 1.5, 3.5, 1.5), nums(2, 1, 2, 1), nums(3, 1, 4, 2)},
		{"NaN of unlike bits", nums(hole, 1, other, turned(hole)), nums(2, 1, 2, 2), nums(4, 1, 4, 4), nums(3, 1, 3, 3), nums(2, 1, 2, 2), nums(2, 1, 3, 4)},
		{"two NaN behind an infinity", nums(other, inf, hole, -inf), nums(3, 2, 3, 1), nums(4, 2, 4, 1), nums(3.5, 2, 3.5, 1), nums(3, 2, 3, 1), nums(3, 2, 4, 1)},
		{"neighbours are unlike", nums(least, 0, least, -least), nums(3, 2, 3, 1), nums(4, 2, 4, 1), nums(3.5, 2, 3.5, 1), nums(3, 2, 3, 1), nums(3, 2, 4, 1)},
	} {
		for tie, is := range map[int][]float64{api.TieLow: c.low, api.TieHigh: c.high, api.TieMean: c.mean, api.TieDense: c.dense, api.TieFirst: c.first} {
			r, e := Ranks(c.l, tie)
			lists(t, fmt.Sprintf("%s, tie %d", c.name, tie), r, is)
			if e != api.OK {
				t.Errorf("%s, tie %d: error %d", c.name, tie, e)
			}
		}
	}
}

func TestRanksOfMany(t *testing.T) {
	many(154, func(l []float64) { ranksAre(t, l, counted(l)) })
	eachList(6, nums(1, noughtBelow, 0, hole), func(l []float64) { ranksAre(t, l, counted(l)) })
}

// P15.2: lists of MaxList numbers; TieMean has halves that are just so.
func TestRanksOfLongLists(t *testing.T) {
	for _, n := range []int{1000, longest - 1, longest} {
		for _, l := range long(155, n) {
			ranksAre(t, l, countedLong(l))
		}
	}
	r, e := Ranks(often(longest, hole), api.TieMean)
	lists(t, "MaxList NaN", r, often(longest, 32768.5))
	if e != api.OK {
		t.Errorf("MaxList NaN: error %d", e)
	}
}
