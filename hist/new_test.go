package hist

import (
	"fmt"
	"slices"
	"testing"
)

// P17.1: none, one, and more than MaxEdges are no edges; nor are more than MaxList: no ErrLong here.
func TestNewRefusesLengths(t *testing.T) {
	refuses(t, "nil")
	refuses(t, "none", []float64{}...)
	refuses(t, "none, with room", make([]float64, 0, 8)...)
	for _, x := range append(append(ends(), inf, -inf), odds()...) {
		refuses(t, "one", x)
	}
	for _, n := range []int{widest + 1, widest + 2, 2 * widest, longest - 1, longest, longest + 1, 3 * longest} {
		refuses(t, "too many", rising(n)...)
		refuses(t, "too many, all noughts", make([]float64, n)...)
		refuses(t, "too many, all odd", often(n, hole)...)
	}
}

// P17.1: from 2 to MaxEdges that rise are edges, and nothing is counted yet.
func TestNewTakes(t *testing.T) {
	for _, l := range [][]float64{
		{0, 1}, {noughtBelow, least}, {-least, 0}, {-least, noughtBelow}, {-least, 0, least}, {1, next(1)}, {prev(greatest), greatest},
		{-greatest, prev(-greatest / 2), 0, greatest}, {-greatest, greatest}, {-greatest, next(-greatest)}, {normal - least, normal, normal + least},
		rising(3), rising(widest - 1), rising(widest),
	} {
		w := pairUp(t, l)
		w.tells("New")
		tells(t, "New", w.h, told{counts: make([]int, len(l)-1), running: make([]int, len(l))})
	}
	steps := nums(-greatest)
	for len(steps) < widest {
		steps = append(steps, next(steps[len(steps)-1]))
	}
	pairUp(t, steps).tells("as many and as near as may be")
	if a, b := made(t, 0, 1), made(t, 0, 1); a == b {
		t.Error("two new ones are the same one")
	}
}

// places are where something may be amiss in a list of n.
func places(n int) []int {
	if n <= 8 {
		l := make([]int, n)
		for i := range l {
			l[i] = i
		}
		return l
	}
	return []int{0, 1, 2, n / 2, n - 3, n - 2, n - 1}
}

// P17.1: two that are alike as values, or such as fall, wherever they stand.
func TestNewRefusesAlikeAndFalling(t *testing.T) {
	for _, n := range []int{2, 3, 4, 5, 8, 100, widest} {
		for _, i := range places(n)[1:] {
			l := rising(n)
			l[i] = l[i-1]
			refuses(t, fmt.Sprintf("alike at %d", i), l...)
			l = rising(n)
			l[i-1], l[i] = l[i], l[i-1]
			refuses(t, fmt.Sprintf("falling at %d", i), l...)
			l = rising(n)
			l[i] = prev(l[i-1])
			refuses(t, fmt.Sprintf("falling by one step at %d", i), l...)
			l = rising(n)
			for j := range l {
				l[j] -= float64(i)
			}
			for _, two := range [][]float64{{0, noughtBelow}, {noughtBelow, 0}, {0, 0}, {noughtBelow, noughtBelow}, {least, 0}, {0, -least}, {least, noughtBelow}, {noughtBelow, -least}} {
				copy(l[i-1:], two)
				refuses(t, fmt.Sprintf("noughts at %d", i), l...)
			}
		}
		l := rising(n)
		slices.Reverse(l)
		refuses(t, "all falling", l...)
		refuses(t, "all alike", often(n, 0.1)...)
	}
}

// P17.1: NaNs of whatever bits and both infinities, at each place.
func TestNewRefusesOdd(t *testing.T) {
	for _, n := range []int{2, 3, 4, 5, 8, 100, widest} {
		for _, i := range places(n) {
			for _, x := range append(odds(), inf, -inf) {
				l := rising(n)
				l[i] = x
				refuses(t, fmt.Sprintf("%x at %d", hex(x), i), l...)
			}
		}
		for _, x := range append(odds(), inf, -inf) {
			refuses(t, "all odd", often(n, x)...)
		}
	}
	refuses(t, "both infinities", -inf, inf)
	refuses(t, "both infinities and a nought", -inf, 0, inf)
	refuses(t, "falling infinities", inf, -inf)
}

// P17.1: all short lists of a few numbers of every kind.
func TestNewOfShortLists(t *testing.T) {
	taken := 0
	for n := range 5 {
		eachList(n, few(), func(l []float64) {
			if !areEdges(l) {
				refuses(t, "a short list", l...)
				return
			}
			taken++
			pairUp(t, l).tells("a short list")
		})
	}
	if taken < 50 {
		t.Errorf("only %d lists were edges", taken)
	}
}
