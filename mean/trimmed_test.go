package mean

import (
	"math"
	"slices"
	"testing"

	"steelyard/api"
)

// trimmedAs fails unless Trimmed answers by every mode as P13.5 says of finite numbers.
func trimmedAs(t *testing.T, l []float64, k int) {
	t.Helper()
	if len(l) <= 2*k {
		for mode := range 5 {
			x, e := Trimmed(l, k, mode)
			refuses(t, "none that is left", x, e, api.ErrNone)
		}
		return
	}
	m := meantBy(trimmedBy(l, k))
	for mode := range 5 {
		x, e := Trimmed(l, k, mode)
		if is, _ := m.right(mode, api.Policy{}); !sameBits(x, is) || e != api.OK {
			t.Errorf("Trimmed of %d numbers, %x .., by %d, mode %d: %x, error %d; want %x", len(l), brief(l), k, mode, x, e, is)
		}
	}
}

// P13.5: by hand, by each mode.
func TestTrimmedByHand(t *testing.T) {
	mixed := [5]float64{0, 0, 0, noughtBelow, 0}
	for _, c := range []struct {
		name string
		l    []float64
		k    int
		is   [5]float64
	}{
		{"k 0", nums(9, 1, 2, 100), 0, everyMode(28)},
		{"k 1", nums(9, 1, 2, 100), 1, everyMode(5.5)},
		{"k that leaves one", nums(5, -3, 100, 4, -1000), 2, everyMode(4)},
		{"k that leaves one of one", nums(-2.5), 0, everyMode(-2.5)},
		{"equal ones", nums(7, 7, 7, 7, 7), 2, everyMode(7)},
		{"equal ones at the cut", nums(1, 2, 2, 2, 3, 2, 1), 2, everyMode(2)},
		{"equal ones are taken away one by one", nums(1, 1, 1, 4, 7), 1, everyMode(2)},
		{"7/3", nums(100, 2, -100, 4, 1), 1, [5]float64{0x1.2aaaaaaaaaaabp1, 0x1.2aaaaaaaaaaaap1, 0x1.2aaaaaaaaaaabp1, 0x1.2aaaaaaaaaaaap1, 0x1.2aaaaaaaaaaabp1}},
		{"-0 and +0 alone", nums(0, noughtBelow), 0, mixed},
		{"-0 is taken away ahead of +0", nums(0, noughtBelow, 5), 1, everyMode(0)},
		{"+0 is taken away behind -0", nums(0, -5, noughtBelow), 1, everyMode(noughtBelow)},
		{"of four noughts the middle two", nums(0, noughtBelow, 0, noughtBelow), 1, mixed},
		{"+0 is left of noughts", nums(0, noughtBelow, 0), 1, everyMode(0)},
		{"-0 is left of noughts", nums(noughtBelow, noughtBelow, 0), 1, everyMode(noughtBelow)},
		{"noughts of both signs are left", nums(-5, noughtBelow, 0, 5), 1, mixed},
		{"-0 alone is left", nums(-5, noughtBelow, noughtBelow, 5), 1, everyMode(noughtBelow)},
		{"+0 alone is left", nums(-5, 0, 0, 5), 1, everyMode(0)},
		{"what cancels is left", nums(-5, -1, 1, 5), 1, mixed},
		{"-0, what was taken away has no say", nums(1, -1, noughtBelow), 1, everyMode(noughtBelow)},
		{"the greatest are left", nums(greatest, greatest, greatest, greatest), 1, everyMode(greatest)},
		{"half the least is left", nums(-1, 0, least, 1), 1, [5]float64{0, 0, least, 0, least}},
		{"less half the least is left", nums(1, -least, 0, -1), 1, [5]float64{noughtBelow, noughtBelow, noughtBelow, -least, -least}},
		{"numbers below nought, by their order", nums(-1, -3, -2, -1000, 0), 1, everyMode(-2)},
	} {
		for mode, is := range c.is {
			x, e := Trimmed(c.l, c.k, mode)
			answers(t, c.name, x, e, is, api.OK)
		}
		trimmedAs(t, c.l, c.k)
	}
}

// P13.5: lists of up to four of some numbers, in all ways, by each k.
func TestTrimmedOfEveryKind(t *testing.T) {
	row := nums(0, noughtBelow, least, -least, 1, -1, greatest, -greatest)
	for n := range 5 {
		eachList(n, row, func(l []float64) {
			for k := range 4 {
				trimmedAs(t, l, k)
			}
		})
	}
	eachList(7, nums(0, noughtBelow, 1, -1), func(l []float64) {
		x, e := Trimmed(l, 3, api.Even)
		answers(t, "the one in the middle", x, e, trimmedBy(l, 3)[0], api.OK)
	})
}

// P13.5: lists of many lengths, of like sizes, of all, and with many that are equal, by each k.
func TestTrimmedOfMany(t *testing.T) {
	d := dice(138)
	for n := range 40 {
		for k := range n/2 + 2 {
			trimmedAs(t, d.list(n, d.near()), k)
			trimmedAs(t, d.list(n, d.finite), k)
			trimmedAs(t, d.list(n, func() float64 { return d.of(nums(0, noughtBelow, 1, -1, 0.1)) }), k)
			trimmedAs(t, d.list(n, func() float64 { return d.of(nums(0, noughtBelow)) }), k)
		}
	}
}

// P13.5: lists of MaxList numbers are taken, by k of nought, in the midst, and such that leaves two or one.
func TestTrimmedOfLongLists(t *testing.T) {
	d := dice(139)
	l := d.list(longest, d.near())
	for _, k := range []int{0, 1, 1000, longest/2 - 1} {
		trimmedAs(t, l, k)
	}
	trimmedAs(t, l[1:], longest/2-1)
	rising, want := make([]float64, longest), float64(longest-1)/2
	for i := range rising {
		rising[i] = float64(i)
	}
	falling := slices.Clone(rising)
	slices.Reverse(falling)
	for _, k := range []int{0, 1, 77, longest / 4, longest/2 - 1} {
		for _, row := range [][]float64{rising, falling, d.shuffled(rising)} {
			x, e := Trimmed(row, k, api.Down)
			answers(t, "rising by one", x, e, want, api.OK)
		}
	}
}

// P13.5: k far past a list of any length.
func TestTrimmedFarPast(t *testing.T) {
	for _, n := range []int{0, 1, 2, 3, 100, longest} {
		for _, k := range []int{n, n + 1, longest, 1 << 31, 1 << 32, 1 << 62, 1<<62 + n, 1<<63 - 1 - n, math.MaxInt} {
			if k == 0 {
				continue
			}
			x, e := Trimmed(often(n, 1), k, api.Even)
			refuses(t, "none is left", x, e, api.ErrNone)
		}
	}
}
