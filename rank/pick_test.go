package rank

import (
	"fmt"
	"testing"

	"steelyard/api"
)

// P15.3: every place of short lists: the number that Sort has there, by counting.
func TestPickOfMany(t *testing.T) {
	check := func(l []float64) {
		for place, is := range sortBy(l, counted(l)) {
			x, e := Pick(l, place)
			answers(t, fmt.Sprintf("Pick of %x, place %d", l, place), x, e, is, api.OK)
		}
	}
	for n := range 4 {
		eachList(n, few(), check)
	}
	d := dice(156)
	for n := 1; n < 40; n++ {
		for _, throw := range []func() float64{d.any, d.finite, d.crowd(), d.close()} {
			check(d.list(n, throw))
		}
	}
}

// P15.3: the first and the last place of long lists, and some between.
func TestPickOfLongLists(t *testing.T) {
	for _, n := range []int{1000, longest - 1, longest} {
		for _, l := range long(157, n) {
			sorted := sortBy(l, countedLong(l))
			for _, place := range []int{0, 1, n / 2, n - 2, n - 1} {
				x, e := Pick(l, place)
				answers(t, fmt.Sprintf("Pick of %d numbers, place %d", n, place), x, e, sorted[place], api.OK)
			}
			for _, place := range []int{n, n + 1} {
				x, e := Pick(l, place)
				refuses(t, fmt.Sprintf("Pick of %d numbers, place %d", n, place), x, e, api.ErrArg)
			}
		}
	}
}
