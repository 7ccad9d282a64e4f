package pool

import (
	"testing"

	"steelyard/moment"
	"steelyard/sums"
)

// P23.5: the same list by many sizes, workers and schedules, and freely: the same answer, to the last bit.
func TestNothingHangsOnTheWay(t *testing.T) {
	d := dice(2321)
	for _, kind := range kinds() {
		for _, n := range []int{1, 6, 60} {
			l := d.list(n, kind)
			for range 12 {
				w := d.way(n)
				comes(t, l, w, d.below(5), policies()[d.below(9)])
				comes(t, d.shuffled(l), w, d.below(5), plain)
			}
		}
	}
}

// P23.5: a short list by all sizes, by all workers of a few, by all short schedules.
func TestAllWays(t *testing.T) {
	l := nums(1, 1e100, noughtBelow, 1, -1e100)
	total, varies := tell(sums.Exact(l, 0, plain)), tell(moment.Var(l, 1, 0, plain))
	for size := 1; size <= len(l)+1; size++ {
		for workers := 1; workers <= 4; workers++ {
			for n := range 4 {
				eachList(n, order(-1, 0, 1, 2, 7), func(order []int) {
					same(t, "Sum", []told{tell(Sum(l, size, workers, order, 0, plain))}, total)
				})
			}
			same(t, "Free, Var", []told{tell(Free(l, size, workers, 0, plain)), tell(Var(l, size, workers, 1, 0, plain))}, total, varies)
		}
	}
}

// P23.5, R6: a call made again and again answers the same, however its goroutines run.
func TestAgainAndAgain(t *testing.T) {
	d := dice(2322)
	l := d.list(200, (*dice).finite)
	w := way{1, 16, d.order(50)}
	for range 100 {
		comes(t, l, w, 0, plain)
	}
}
