package rank

import (
	"math"
	"slices"
	"testing"

	"steelyard/api"
	"steelyard/bits"
)

// What follows: Sort of Sort is Sort; none stands ahead of one that comes before it; the same numbers are in it; Sort at a number's place is that number.
func TestSortOfSort(t *testing.T) {
	many(161, func(l []float64) {
		sorted, at := Sort(l), Places(l)
		lists(t, "Sort of Sort", Sort(sorted), sorted)
		if !slices.IsSortedFunc(sorted, bits.Order) {
			t.Errorf("Sort of %x: %x is not in order", brief(l), brief(sorted))
		}
		if len(sorted) != len(l) || len(at) != len(l) {
			t.Fatalf("%d numbers: %d sorted, %d places", len(l), len(sorted), len(at))
		}
		taken := make([]int, len(l))
		for i, x := range l {
			taken[at[i]]++
			if y := sorted[at[i]]; !bits.Same(x, y) || y != y && !sameBits(y, hole) {
				t.Errorf("of %x: %x has the place %d, where %x stands", brief(l), x, at[i], y)
			}
		}
		for place, n := range taken {
			if n != 1 {
				t.Errorf("of %x: the place %d is told %d times", brief(l), place, n)
			}
		}
		still := make([]int, len(l))
		for i := range still {
			still[i] = i
		}
		places(t, "Places of Sort", Places(sorted), still)
	})
}

// What follows: in whatever order a list is handed in, Sort, Pick and Median are the same.
func TestOrderIsNotSeen(t *testing.T) {
	d := dice(162)
	check := func(l []float64) {
		other := d.shuffled(l)
		sorted := Sort(l)
		lists(t, "Sort in another order", Sort(other), sorted)
		for _, place := range []int{0, len(l) / 3, len(l) - 1} {
			x, e := Pick(l, place)
			y, f := Pick(other, place)
			answers(t, "Pick in another order", y, f, x, e)
			if e == api.OK {
				answers(t, "Pick and Sort", x, e, sorted[place], api.OK)
			}
		}
		for mode := range 5 {
			x, e := Median(l, mode)
			y, f := Median(other, mode)
			answers(t, "Median in another order", y, f, x, e)
		}
	}
	many(163, check)
	for n := range 60 {
		check(d.list(n, d.finite))
	}
	for _, l := range long(164, longest) {
		check(l)
	}
}

// sumsUp is what ranks add up to: at most 2^32, so that each step is just so.
func sumsUp(l []float64) float64 {
	s := 0.0
	for _, x := range l {
		s += x
	}
	return s
}

// What follows: ranks by TieMean add up to n (n + 1) / 2; by TieFirst they are 1 to n, each once; TieLow is at most TieMean, that at most TieHigh; alike numbers alone have one rank, but by TieFirst.
func TestRanksOfOneList(t *testing.T) {
	check := func(l []float64) {
		var r [5][]float64
		for tie := range r {
			var e api.Errno
			if r[tie], e = Ranks(l, tie); e != api.OK || len(r[tie]) != len(l) {
				t.Fatalf("%d numbers, tie %d: %d ranks, error %d", len(l), tie, len(r[tie]), e)
			}
		}
		n := float64(len(l))
		if s := sumsUp(r[api.TieMean]); s != n*(n+1)/2 {
			t.Errorf("of %x: TieMean adds up to %v, not to %v", brief(l), s, n*(n+1)/2)
		}
		first := slices.Clone(r[api.TieFirst])
		slices.Sort(first)
		for i, x := range first {
			if x != float64(i+1) {
				t.Errorf("of %x: by TieFirst %v stands where %d should", brief(l), x, i+1)
			}
		}
		for i, at := range Places(l) {
			low, high, mean, dense := r[api.TieLow][i], r[api.TieHigh][i], r[api.TieMean][i], r[api.TieDense][i]
			if !(low <= mean && mean <= high && dense <= low && low+high == 2*mean) || r[api.TieFirst][i] != float64(at+1) {
				t.Errorf("of %x at %d: TieLow %v, TieMean %v, TieHigh %v, TieDense %v, TieFirst %v, place %d", brief(l), i, low, mean, high, dense, r[api.TieFirst][i], at)
			}
		}
		for i := 1; i < len(l); i++ {
			stand := bits.Order(l[i-1], l[i])
			for tie := range 4 {
				if x, y := r[tie][i-1], r[tie][i]; bits.Order(x, y) != stand {
					t.Errorf("of %x, tie %d: ranks %v, %v of %x, %x", brief(l), tie, x, y, l[i-1], l[i])
				}
			}
		}
	}
	many(165, check)
	for _, l := range long(166, longest) {
		check(l)
	}
}

// What follows: half of a list's numbers at least are not above the Median, and half at least not below it.
func TestMedianHalves(t *testing.T) {
	d := dice(167)
	check := func(l []float64) {
		for mode := range 5 {
			x, e := Median(l, mode)
			if e != api.OK {
				continue
			}
			above, below := 0, 0
			for _, y := range l {
				if y > x {
					above++
				}
				if y < x {
					below++
				}
			}
			if 2*above > len(l) || 2*below > len(l) {
				t.Errorf("of %d numbers, %x, mode %d: %d above the Median %x, %d below it", len(l), brief(l), mode, above, x, below)
			}
		}
	}
	many(168, check)
	for n := range 200 {
		check(d.list(n, d.finite))
		check(d.list(n, d.close()))
	}
	for _, l := range long(169, longest) {
		check(l)
	}
}

// P15.4, P0.2: what is answered by Up and Down are the neighbours of half the exact sum, what is answered by the others is one of them; with signs turned, and the mode too, the Median of a finite list has its sign turned, but for a nought that is just so.
func TestMedianByModes(t *testing.T) {
	d := dice(170)
	for range 3000 {
		l := nums(d.finite(), d.finite())
		var by [5]float64
		for mode := range by {
			var e api.Errno
			if by[mode], e = Median(l, mode); e != api.OK {
				t.Fatalf("of %x, mode %d: error %d", l, mode, e)
			}
			y, e := Median(turnedAll(l), turnedMode(mode))
			switch {
			case l[0] == -l[1] && !sameBits(l[0], l[1]):
				answers(t, "signs turned, just nought", y, e, 0, api.OK)
			default:
				answers(t, "signs turned", y, e, turned(by[mode]), api.OK)
			}
		}
		down, up := by[api.Down], by[api.Up]
		if up != down && up != math.Nextafter(down, inf) {
			t.Errorf("of %x: Down %x, Up %x are no neighbours", l, down, up)
		}
		for mode, x := range by {
			if x != down && x != up {
				t.Errorf("of %x: Down %x, Up %x, mode %d %x", l, down, up, mode, x)
			}
		}
	}
}
