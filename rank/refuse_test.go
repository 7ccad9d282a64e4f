package rank

import (
	"fmt"
	"math"
	"testing"

	"steelyard/api"
)

// special is n numbers of which the first are a NaN and two infinities.
func special(n int) []float64 {
	l := often(n, 1)
	copy(l, []float64{hole, inf, -inf})
	return l
}

// lengths are of lists that are not too long, and of others that are.
func lengths() []int { return []int{0, 1, 2, 3, longest - 1, longest, longest + 1, 2 * longest} }

// P15.2: a tie that is none, then a list that is too long; beside an error there are no ranks.
func TestRanksRefusesInOrder(t *testing.T) {
	refused := func(n, tie int, want api.Errno) {
		t.Helper()
		for _, l := range [][]float64{special(n), often(n, -1)} {
			r, e := Ranks(l, tie)
			if len(r) > 0 || e != want {
				t.Errorf("%d numbers, tie %d: %d ranks, error %d; want %d", n, tie, len(r), e, want)
			}
		}
	}
	for _, n := range lengths() {
		for _, tie := range noTies() {
			refused(n, tie, api.ErrArg)
		}
		for tie := range 5 {
			if n > longest {
				refused(n, tie, api.ErrLong)
			} else if r, e := Ranks(special(n), tie); len(r) != n || e != api.OK {
				t.Errorf("%d numbers, tie %d: %d ranks, error %d", n, tie, len(r), e)
			}
		}
	}
}

// P15.3: a place below 0, a list that is too long, none, a place that is not below how many there are: the first of these is told.
func TestPickRefusesInOrder(t *testing.T) {
	below := []int{-1, -2, -longest, -1 << 32, math.MinInt}
	beyond := []int{2 * longest, 2*longest + 1, 1 << 32, math.MaxInt}
	for _, n := range lengths() {
		l := special(n)
		for _, place := range below {
			x, e := Pick(l, place)
			refuses(t, fmt.Sprintf("%d numbers, place %d", n, place), x, e, api.ErrArg)
		}
		want := api.ErrArg
		switch {
		case n > longest:
			want = api.ErrLong
		case n == 0:
			want = api.ErrNone
		}
		for _, place := range append(beyond, n, n+1) {
			x, e := Pick(l, place)
			refuses(t, fmt.Sprintf("%d numbers, place %d", n, place), x, e, want)
		}
		if want == api.ErrArg {
			continue
		}
		for _, place := range []int{0, 1, n / 2} {
			x, e := Pick(l, place)
			refuses(t, fmt.Sprintf("%d numbers, place %d", n, place), x, e, want)
		}
	}
	x, e := Pick(nums(), 0)
	refuses(t, "none, not nil", x, e, api.ErrNone)
}

// P15.4: a mode that is none, a list that is too long, a NaN, none, -Inf and +Inf in the middle: the first of these is told.
func TestMedianRefusesInOrder(t *testing.T) {
	for _, c := range []struct {
		name string
		l    []float64
		e    api.Errno
	}{
		{"too long", often(longest+1, 1), api.ErrLong},
		{"too long, with a NaN", special(longest + 1), api.ErrLong},
		{"too long, NaN alone", often(longest+2, hole), api.ErrLong},
		{"too long, with -Inf and +Inf in the middle", append(often(longest, -inf), often(longest, inf)...), api.ErrLong},
		{"far too long", often(3*longest, 0), api.ErrLong},
		{"a NaN alone", nums(hole), api.ErrOdd},
		{"a NaN behind", nums(1, 2, hole), api.ErrOdd},
		{"a NaN, and -Inf and +Inf in the middle", nums(-inf, inf, hole), api.ErrOdd},
		{"NaN, far from the middle", nums(1, 1, 1, 1, 1, hole), api.ErrOdd},
		{"a NaN among as many as may be", append(often(longest-1, 1), hole), api.ErrOdd},
		{"none", nil, api.ErrNone},
		{"none, not nil", nums(), api.ErrNone},
		{"-Inf and +Inf", nums(-inf, inf), api.ErrOdd},
		{"+Inf and -Inf", nums(inf, -inf), api.ErrOdd},
		{"two of each", nums(inf, -inf, -inf, inf), api.ErrOdd},
		{"as many of each as may be", append(often(longest/2, inf), often(longest/2, -inf)...), api.ErrOdd},
	} {
		for _, mode := range noModes() {
			x, e := Median(c.l, mode)
			refuses(t, c.name+", and a mode that is none", x, e, api.ErrArg)
		}
		for mode := range 5 {
			x, e := Median(c.l, mode)
			refuses(t, c.name, x, e, c.e)
		}
	}
	for _, mode := range noModes() {
		x, e := Median(nums(1, 2, 3), mode)
		refuses(t, "a mode that is none, an odd list", x, e, api.ErrArg)
		x, e = Median(nums(2, 2), mode)
		refuses(t, "a mode that is none, the same in the middle", x, e, api.ErrArg)
		x, e = Median(nums(2, inf), mode)
		refuses(t, "a mode that is none, an infinity in the middle", x, e, api.ErrArg)
	}
}

// P15.4: a NaN of any bits is refused at every place.
func TestMedianRefusesNaN(t *testing.T) {
	for _, odd := range odds() {
		for n := 1; n < 6; n++ {
			for i := range n {
				l := nums(1, -2, 3, inf, 5)[:n]
				l[i] = odd
				for mode := range 5 {
					x, e := Median(l, mode)
					refuses(t, fmt.Sprintf("a NaN at %d of %d", i, n), x, e, api.ErrOdd)
				}
			}
		}
	}
}
