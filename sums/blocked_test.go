package sums

import (
	"math"
	"testing"

	"steelyard/api"
)

// noSizes are what no block has.
func noSizes() []int {
	return []int{0, -1, longest + 1, -longest, 2 * longest, 1 << 32, 1<<32 + 4, -1 << 32, math.MinInt, math.MaxInt}
}

func blocked(t *testing.T, l []float64, size int) {
	t.Helper()
	x, e := Blocked(l, size)
	if is := (inSteps{}).blocked(l, size); !sameBits(x, is) || e != api.OK {
		t.Errorf("Blocked of %d numbers by %d: %x (bits %x), error %d; want %x", len(l), size, x, hex(x), e, is)
	}
}

// P10.6: a size that is none is refused ahead of a list that is too long.
func TestBlockedRefusesInOrder(t *testing.T) {
	for _, l := range [][]float64{nil, {1, 2, 3}, {hole}, often(longest, 1), often(longest+1, 1)} {
		for _, size := range noSizes() {
			x, e := Blocked(l, size)
			refuses(t, "a size that is none", x, e, api.ErrArg)
		}
	}
	for _, size := range []int{1, 2, 4, longest - 1, longest} {
		x, e := Blocked(often(longest+1, 1), size)
		refuses(t, "a list that is too long", x, e, api.ErrLong)
		x, e = Blocked(often(3*longest, hole), size)
		refuses(t, "a list that is far too long", x, e, api.ErrLong)
		x, e = Blocked(often(longest, 1), size)
		answers(t, "MaxList numbers", x, e, longest, api.OK)
	}
}

// P10.6: sizes from 1 to MaxList, lists of none, of whole blocks and of others.
func TestBlockedSizes(t *testing.T) {
	d := dice(107)
	for n := range 70 {
		l, wild := d.near(n), append(d.list(n), d.of(few()))
		for size := 1; size <= 75; size++ {
			blocked(t, l, size)
			blocked(t, wild, size)
		}
		for _, size := range []int{100, 1 << 10, longest - 1, longest} {
			blocked(t, l, size)
		}
	}
	l := d.near(longest)
	for _, size := range []int{1, 2, 3, 255, 256, 257, longest/2 - 1, longest / 2, longest/2 + 1, longest - 1, longest} {
		blocked(t, l, size)
		blocked(t, l[:longest-1], size)
	}
}

// P10.6: noughts, infinities and NaNs, in one block and in several.
func TestBlockedOfEveryKind(t *testing.T) {
	for size := 1; size <= 4; size++ {
		blocked(t, nil, size)
		blocked(t, []float64{}, size)
		eachList(3, few(), func(l []float64) { blocked(t, l, size) })
		for _, x := range odds() {
			for i := range 5 {
				l := often(5, 1)
				l[i] = x
				got, e := Blocked(l, size)
				answers(t, "a NaN", got, e, hole, api.OK)
			}
		}
		for n := 1; n < 10; n++ {
			x, e := Blocked(often(n, noughtBelow), size)
			answers(t, "-0 alone", x, e, noughtBelow, api.OK)
		}
	}
}

// Blocks of one, and one block for all, are the running sum; others are not: by hand, and by where they lie.
func TestBlockedAndRunning(t *testing.T) {
	d := dice(108)
	parted := 0
	for n := range 200 {
		l := d.near(n)
		for _, size := range []int{1, max(n, 1), n + 1, longest} {
			x, e := Blocked(l, size)
			answers(t, "as Running", x, e, Running(l), api.OK)
		}
		if x, _ := Blocked(l, 7); !sameBits(x, Running(l)) {
			parted++
		}
	}
	if parted < 100 {
		t.Errorf("only %d lists part", parted)
	}
	for _, c := range []struct {
		size int
		is   float64
	}{{1, 0x1p53}, {2, 0x1p53 + 4}, {3, 0x1p53 + 2}, {4, 0x1p53}, {5, 0x1p53}} {
		// By twos: 2^53, 2, 1, which goes to the even one; by threes: 2^53, 2; by fours: 2^53, 1.
		x, e := Blocked([]float64{0x1p53, 1, 1, 1, 1}, c.size)
		answers(t, "by hand", x, e, c.is, api.OK)
	}
}
