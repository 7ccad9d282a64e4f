package slide

import (
	"math"
	"testing"

	"steelyard/api"
)

// P20.1: New of a size that is not 1 to MaxWindow is nil.
func TestNewRefuses(t *testing.T) {
	for _, size := range []int{0, -1, -2, -4096, math.MinInt, math.MinInt32, 4097, 4098, 8192, 65536, 1 << 32, 1<<32 + 1, math.MaxInt, -1 << 32} {
		if New(size) != nil {
			t.Errorf("New(%d): not nil", size)
		}
	}
}

// P20.1: New of each size from 1 to MaxWindow is a Slide with an empty list.
func TestNewIsEmpty(t *testing.T) {
	for size := 1; size <= widest; size++ {
		s := New(size)
		if s == nil || s.Len() != 0 {
			t.Fatalf("New(%d): nil, or not empty", size)
		}
		x, e := s.Least()
		refuses(t, "Least of none", x, e, api.ErrNone)
	}
	pairUp(t, 1).tells()
	pairUp(t, 2).tells()
	pairUp(t, widest).tells()
}

// P20.1: Len is one more behind each Push, till the list is as long as the size; then it stays so.
func TestLen(t *testing.T) {
	for _, size := range []int{1, 2, 3, 4, 5, 7, 8, 16, 31, 100, 1000, widest - 1, widest} {
		s := New(size)
		for i := range 3*size + 5 {
			s.Push(float64(i))
			if n := s.Len(); n != min(i+1, size) {
				t.Fatalf("size %d: Len behind %d Pushes: %d", size, i+1, n)
			}
		}
	}
}

// P20.1: any number is pushed, and stands in the list as one of it.
func TestPushAny(t *testing.T) {
	for _, size := range []int{1, 2, 3, 50} {
		w := pairUp(t, size)
		for _, x := range append(ends(), odds()...) {
			w.push(x)
			w.tells()
		}
	}
}

// P20.1: the first one goes, not another one: a number that is told by the sum alone is there behind as many Pushes as the size less one, and no longer.
func TestTheFirstGoes(t *testing.T) {
	for _, size := range []int{1, 2, 3, 10, 1000, widest} {
		for _, x := range nums(5, -5, inf, -inf, hole, least, greatest) {
			s := pushed(size, x)
			for range size - 1 {
				s.Push(0)
			}
			sum, e := s.Sum(api.Even, plain)
			want(t, "the first is there yet", sum, e, x)
			s.Push(0)
			sum, e = s.Sum(api.Even, plain)
			want(t, "the first is gone", sum, e, 0)
		}
	}
}

// P20.1: numbers that each have a power of two of their own: their sum tells which are there.
func TestTheLastStay(t *testing.T) {
	for size := 1; size <= 40; size++ {
		s := New(size)
		sum := 0.0
		for i := range 300 {
			s.Push(math.Ldexp(1, i))
			sum += math.Ldexp(1, i)
			if i >= size {
				sum -= math.Ldexp(1, i-size)
			}
			x, e := s.Sum(api.Even, plain)
			want(t, "powers of two", x, e, sum)
		}
	}
}
