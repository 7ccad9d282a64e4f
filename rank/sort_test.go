package rank

import (
	"fmt"
	"math"
	"slices"
	"testing"
)

// sorts holds Sort and Places against both by counting.
func sorts(t *testing.T, l []float64, all []stand) {
	t.Helper()
	what := fmt.Sprintf("of %d numbers, %x", len(l), brief(l))
	lists(t, "Sort "+what, Sort(l), sortBy(l, all))
	places(t, "Places "+what, Places(l), placesBy(all))
}

// P15.1: by hand: none, one, two, all the same, in order and from behind, both noughts, infinities, NaN.
func TestSortByHand(t *testing.T) {
	other := math.Float64frombits(0xFFF0000000000001)
	for _, c := range []struct {
		name  string
		l, is []float64
		at    []int
	}{
		{"none", nil, nil, nil},
		{"one", nums(5), nums(5), []int{0}},
		{"one, -0", nums(noughtBelow), nums(noughtBelow), []int{0}},
		{"one NaN", nums(other), nums(hole), []int{0}},
		{"two in order", nums(1, 2), nums(1, 2), []int{0, 1}},
		{"two from behind", nums(2, 1), nums(1, 2), []int{1, 0}},
		{"two the same", nums(2, 2), nums(2, 2), []int{0, 1}},
		{"both noughts in order", nums(noughtBelow, 0), nums(noughtBelow, 0), []int{0, 1}},
		{"both noughts from behind", nums(0, noughtBelow), nums(noughtBelow, 0), []int{1, 0}},
		{"noughts in turn", nums(0, noughtBelow, 0, noughtBelow), nums(noughtBelow, noughtBelow, 0, 0), []int{2, 0, 3, 1}},
		{"noughts among neighbours", nums(least, 0, noughtBelow, -least), nums(-least, noughtBelow, 0, least), []int{3, 2, 1, 0}},
		{"all the same", nums(7, 7, 7, 7, 7), nums(7, 7, 7, 7, 7), []int{0, 1, 2, 3, 4}},
		{"in order", nums(-inf, -greatest, -1, noughtBelow, 0, 1, greatest, inf, hole), nums(-inf, -greatest, -1, noughtBelow, 0, 1, greatest, inf, hole), []int{0, 1, 2, 3, 4, 5, 6, 7, 8}},
		{"from behind", nums(hole, inf, greatest, 1, 0, noughtBelow, -1, -greatest, -inf), nums(-inf, -greatest, -1, noughtBelow, 0, 1, greatest, inf, hole), []int{8, 7, 6, 5, 4, 3, 2, 1, 0}},
		{"infinities behind a NaN", nums(other, inf, -inf), nums(-inf, inf, hole), []int{2, 1, 0}},
		{"NaN of unlike bits keep their order", nums(other, 1, hole, turned(hole), 0), nums(0, 1, hole, hole, hole), []int{2, 1, 3, 4, 0}},
		{"NaN with the sign bit", nums(turned(hole), -inf), nums(-inf, hole), []int{1, 0}},
		{"alike ones in the list's order", nums(2, 1, 2, 1, 2), nums(1, 1, 2, 2, 2), []int{2, 0, 3, 1, 4}},
		{"neighbours", nums(1+0x1p-52, 1, 1-0x1p-53), nums(1-0x1p-53, 1, 1+0x1p-52), []int{2, 1, 0}},
		{"neighbours below nought", nums(-1+0x1p-53, -1, -1-0x1p-52), nums(-1-0x1p-52, -1, -1+0x1p-53), []int{2, 1, 0}},
		{"small ones", nums(3*least, -2*least, normal, 2*least), nums(-2*least, 2*least, 3*least, normal), []int{2, 0, 3, 1}},
	} {
		lists(t, c.name, Sort(c.l), c.is)
		places(t, c.name, Places(c.l), c.at)
	}
}

// P15.1: each NaN, whatever its bits, is sorted as the NaN that is answered, behind all others.
func TestSortOfNaN(t *testing.T) {
	for _, x := range odds() {
		for _, l := range [][]float64{{x}, {x, inf}, {inf, x}, {x, x}, {-inf, x, 0, x}, {x, -1, x, noughtBelow, x}} {
			sorts(t, l, counted(l))
		}
	}
	l := append(odds(), 1, inf, -inf)
	l = append(l, odds()...)
	sorts(t, l, counted(l))
	slices.Reverse(l)
	sorts(t, l, counted(l))
}

// P15.1: all numbers of the edges, in several orders.
func TestSortOfEdges(t *testing.T) {
	d := dice(151)
	l := append(edges(), inf, -inf)
	l = append(l, odds()...)
	l = append(l, edges()...)
	for range 200 {
		l = d.shuffled(l)
		sorts(t, l, counted(l))
	}
}

func TestSortOfMany(t *testing.T) {
	many(152, func(l []float64) { sorts(t, l, counted(l)) })
	eachList(4, few(), func(l []float64) { sorts(t, l, counted(l)) })
	eachList(6, nums(1, noughtBelow, 0, hole), func(l []float64) { sorts(t, l, counted(l)) })
}

// long are lists of about n numbers, by which a sort may go wrong in unlike ways: in order, from behind, all the same, in few steps, up and down again, in no order.
func long(seed dice, n int) [][]float64 {
	d := seed
	rising := d.list(n, d.any)
	slices.SortFunc(rising, byKey)
	falling := slices.Clone(rising)
	slices.Reverse(falling)
	saw := make([]float64, n)
	roof := make([]float64, n)
	for i := range n {
		saw[i] = float64(i % 7)
		roof[i] = float64(min(i, n-i))
	}
	return [][]float64{rising, falling, often(n, noughtBelow), often(n, turned(hole)), saw, roof, d.list(n, d.any), d.list(n, d.crowd()), d.list(n, d.close()), d.list(n, d.near())}
}

// P15.1: lists of any length, past MaxList too.
func TestSortOfLongLists(t *testing.T) {
	for _, n := range []int{1000, longest - 1, longest, longest + 1, 3*longest + 5} {
		for _, l := range long(153, n) {
			sorts(t, l, countedLong(l))
		}
	}
	l := often(2_000_000, 0)
	for i := range l {
		l[i] = float64(i * 7919 % len(l))
	}
	sorted, at := Sort(l), Places(l)
	if len(sorted) != len(l) || len(at) != len(l) {
		t.Fatalf("%d numbers: %d sorted, %d places", len(l), len(sorted), len(at))
	}
	for i, x := range l {
		if sorted[i] != float64(i) || at[i] != int(x) {
			t.Fatalf("of %d: place %d has %v, %v has the place %d", len(l), i, sorted[i], x, at[i])
		}
	}
}
