package pool

import (
	"testing"

	"steelyard/api"
)

// P23.1, P23.2: short lists of every kind of numbers, by all modes and policies.
func TestShortLists(t *testing.T) {
	ways := []way{{1, 1, nil}, {1, 2, order(0, 1)}, {2, 2, order(1, 0, -1)}, {1, 3, order(2, 1)}, {2, most, order(-1)}}
	for n := range 4 {
		i := 0
		eachList(n, sorts(), func(l []float64) {
			i++
			comes(t, l, ways[i%len(ways)], i%5, policies()[i%9])
			if n < 3 {
				accounts(t, l, ways[i%len(ways)])
			}
		})
	}
}

// P23.1, P23.2: lists of all kinds, held against exact fractions.
func TestByFractions(t *testing.T) {
	d := dice(2311)
	for _, kind := range kinds() {
		for _, n := range []int{1, 2, 5, 12} {
			l := d.list(n, kind)
			accounts(t, l, d.way(n))
		}
	}
}

// P23.1, P23.2: lists shorter and longer than a size, with and without a last piece that is not full; more workers than pieces.
func TestSizesAndWorkers(t *testing.T) {
	d := dice(2312)
	for _, n := range []int{0, 1, 2, 3, 7, 8, 9, 20} {
		l := d.list(n, func(d *dice) float64 { return d.of(nums(1, 1e100, -1e100, 0.1, -3, tiny)) })
		for size := 1; size <= n+2; size++ {
			for _, workers := range []int{1, 2, 3, 9, most - 1, most} {
				comes(t, l, way{size, workers, d.order(d.below(9))}, d.below(5), plain)
			}
		}
		for _, size := range []int{longest - 1, longest} {
			comes(t, l, way{size, most, order(63)}, api.Even, plain)
		}
	}
	for workers := 1; workers <= most; workers++ {
		comes(t, d.list(70, (*dice).finite), way{1, workers, d.order(80)}, workers%5, plain)
	}
}

// P23.1: schedules of all kinds, shorter and longer than the turns.
func TestSchedules(t *testing.T) {
	d := dice(2313)
	for _, kind := range kinds() {
		l := d.list(37, kind)
		for i, order := range schedules() {
			everyWay(t, l[:i], way{2, 3, order})
			comes(t, l, way{1, 1 + d.below(most), order}, i%5, policies()[i%9])
		}
	}
}

// P23.1, P23.2: sums that cancel, whoever has the parts of them.
func TestCancels(t *testing.T) {
	d := dice(2314)
	for range 30 {
		half := d.list(1+d.below(20), (*dice).finite)
		l := append([]float64(nil), half...)
		for _, x := range half {
			l = append(l, turned(x))
		}
		l = d.shuffled(l)
		w := d.way(len(l))
		same(t, "nothing is left", []told{
			tell(Sum(l, w.size, w.workers, w.order, api.Even, plain)), tell(Sum(l, w.size, w.workers, w.order, api.Down, plain)),
			tell(Free(l, w.size, w.workers, api.Away, plain)), tell(Free(l, w.size, w.workers, api.Down, plain)),
		}, is(0), is(noughtBelow), is(0), is(noughtBelow))
		everyWay(t, append(l, tiny), w)
	}
	// A worker's own sum may lie far beyond all numbers.
	l := append(often(100, greatest), often(99, -greatest)...)
	w := way{100, 2, order(0, 1)}
	everyWay(t, l, w)
	same(t, "one is left", []told{tell(Sum(l, 100, 2, order(0, 1), 0, plain)), tell(Free(l, 100, 2, 0, plain))}, is(greatest), is(greatest))
}

// P23.2: variances at the ends of all numbers, and of numbers that are all one.
func TestVarAtTheEnds(t *testing.T) {
	for _, l := range [][]float64{
		nums(greatest, -greatest), nums(greatest, greatest), nums(tiny, -tiny), nums(tiny, 0), nums(greatest, tiny), nums(1e200, -1e200),
		nums(noughtBelow), nums(noughtBelow, 0), often(9, 0.1), often(9, greatest), append(often(9, 0.1), hole), append(often(8, -3), inf),
		nums(1e8+1, 1e8+2, 1e8+3, 1e8+4),
	} {
		for _, w := range []way{{1, 1, nil}, {1, 2, nil}, {2, 3, order(1, 2)}, {longest, most, nil}} {
			everyWay(t, l, w)
			accounts(t, l, w)
		}
	}
}

// P23.1, P23.2: lists at MaxList.
func TestTheLongestLists(t *testing.T) {
	d := dice(2315)
	for i, w := range []way{{1, most, d.order(1000)}, {1000, 3, order(2, 1, 0, 0)}, {longest, 1, nil}, {longest - 1, 2, order(0, 1)}} {
		comes(t, d.list(longest, (*dice).finite), w, i, plain)
	}
	for _, x := range nums(-greatest, tiny, noughtBelow) {
		comes(t, often(longest, x), way{7, 5, order(4, 2)}, api.Even, plain)
	}
	l := append(often(longest-1, 1), hole)
	refuses(t, "the last one", l, way{100, 4, order(0, 1)}, api.Even, strict, api.ErrNaN)
}
