package slide

import (
	"math"
	"slices"
	"testing"

	"steelyard/api"
)

// ends2 fails unless Least and Most answer these.
func ends2(t *testing.T, what string, s *Slide, low, high float64) {
	t.Helper()
	x, e := s.Least()
	want(t, what+": Least", x, e, low)
	x, e = s.Most()
	want(t, what+": Most", x, e, high)
}

// P20.3: of an empty list there is none.
func TestEndsOfNone(t *testing.T) {
	for _, size := range []int{1, 2, 3, widest} {
		s := New(size)
		x, e := s.Least()
		refuses(t, "Least of none", x, e, api.ErrNone)
		x, e = s.Most()
		refuses(t, "Most of none", x, e, api.ErrNone)
	}
}

// P20.3: of NaN alone it is the one that is answered, whatever bits they have; beside others they are passed over.
func TestEndsOfNaN(t *testing.T) {
	for _, x := range odds() {
		for size := 1; size <= 5; size++ {
			s := New(size)
			for range size + 2 {
				s.Push(x)
				ends2(t, "NaN alone", s, hole, hole)
			}
			s.Push(3)
			ends2(t, "one beside NaN", s, 3, 3)
			for range size - 1 {
				s.Push(x)
				ends2(t, "NaN beside one", s, 3, 3)
			}
			s.Push(x)
			ends2(t, "NaN alone again", s, hole, hole)
		}
	}
}

// P20.3: by the total order: all kinds side by side, -0 below +0, and with their own bits.
func TestEndsByTheTotalOrder(t *testing.T) {
	all := ends()
	for _, x := range all {
		for _, y := range all {
			low, high := x, y
			if x > y || x == y && math.Signbit(y) {
				low, high = y, x
			}
			ends2(t, "two", pushed(2, hole, x, y), low, high)
			ends2(t, "two, a NaN between", pushed(3, 1, x, hole, y), low, high)
		}
	}
	ends2(t, "-0, +0", pushed(2, noughtBelow, 0), noughtBelow, 0)
	ends2(t, "+0, -0", pushed(2, 0, noughtBelow), noughtBelow, 0)
	ends2(t, "-0, -0", pushed(2, 0, noughtBelow, noughtBelow), noughtBelow, noughtBelow)
	ends2(t, "+0, +0", pushed(2, noughtBelow, 0, 0), 0, 0)
}

// P20.3: what went while it was the least, or the greatest, is told no more.
func TestTheEndGoes(t *testing.T) {
	s := pushed(3, 1, 5, 3)
	ends2(t, "1 5 3", s, 1, 5)
	s.Push(4)
	ends2(t, "5 3 4", s, 3, 5)
	s.Push(3.5)
	ends2(t, "3 4 3.5", s, 3, 4)
	s.Push(3.75)
	ends2(t, "4 3.5 3.75", s, 3.5, 4)
	s.Push(hole)
	ends2(t, "3.5 3.75 NaN", s, 3.5, 3.75)
	s.Push(hole)
	ends2(t, "3.75 NaN NaN", s, 3.75, 3.75)
	s.Push(hole)
	ends2(t, "NaN NaN NaN", s, hole, hole)
	s.Push(-inf)
	ends2(t, "NaN NaN -Inf", s, -inf, -inf)
	for _, x := range append(ends(), hole) {
		for size := 1; size <= 4; size++ {
			w := pairUp(t, size, x)
			for i := range 2 * size {
				w.push(float64(i%3) + 0.5)
				w.ends()
			}
		}
	}
}

// P20.3: numbers that only rise, only fall, are all the same, go up and down: sizes from 1 to many.
func TestRows(t *testing.T) {
	for _, size := range []int{1, 2, 3, 4, 5, 8, 13, 100} {
		rise, fall, like, saw := pairUp(t, size), pairUp(t, size), pairUp(t, size), pairUp(t, size)
		for i := range 3*size + 10 {
			rise.push(float64(i))
			fall.push(-float64(i))
			like.push(0.1)
			saw.push(float64(i * 37 % 11))
			for _, w := range []*twin{rise, fall, like, saw} {
				w.ends()
			}
			ends2(t, "rising", rise.s, float64(max(0, i-size+1)), float64(i))
			ends2(t, "all the same", like.s, 0.1, 0.1)
		}
	}
}

// P20.3: one of several that are the same goes: the others are there yet.
func TestEqualOnesGo(t *testing.T) {
	for _, x := range nums(5, -5, 0, noughtBelow, inf, -inf, least) {
		for size := 2; size <= 6; size++ {
			for n := 1; n <= size; n++ {
				w := pairUp(t, size, slices.Concat(often(n, x), often(size-n, 1))...)
				for range size + 1 {
					w.ends()
					w.push(1)
				}
				w.ends()
			}
		}
	}
}

// P20.3: all short rows, in small windows.
func TestEndsOfShortRows(t *testing.T) {
	row := nums(1, 2, 3, hole, noughtBelow, 0)
	eachList(6, row, func(l []float64) {
		for size := 2; size <= 4; size++ {
			w := pairUp(t, size, l...)
			w.ends()
		}
	})
	eachList(5, nums(inf, -inf, hole, 7), func(l []float64) {
		for size := 1; size <= 5; size++ {
			w := pairUp(t, size)
			for _, x := range l {
				w.push(x)
				w.ends()
			}
		}
	})
}

// P20.3: long rows of all kinds, asked behind each Push.
func TestEndsOfLongRows(t *testing.T) {
	d := dice(203)
	for _, kind := range kinds() {
		for _, size := range []int{1, 2, 3, 7, 20, 60} {
			w := pairUp(t, size)
			for _, x := range d.list(5*size+50, kind) {
				w.push(x)
				w.ends()
			}
		}
	}
	for _, kind := range kinds() {
		w := pairUp(t, widest)
		for range 5 {
			w.push(d.list(widest/2+7, kind)...)
			w.ends()
		}
	}
}
