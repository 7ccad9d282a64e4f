package quant

import (
	"fmt"
	"math"
	"testing"

	"steelyard/api"
)

// refusedList is a list and what is told of it where all else is as it may be.
type refusedList struct {
	name string
	l    []float64
	e    api.Errno
}

func refusedLists() []refusedList {
	return []refusedList{
		{"too long", often(longest+1, 1), api.ErrLong},
		{"too long, with a NaN", append(often(longest, 1), hole), api.ErrLong},
		{"too long, infinities alone", often(longest+2, inf), api.ErrLong},
		{"far too long", often(3*longest, 0), api.ErrLong},
		{"a NaN alone", nums(hole), api.ErrOdd},
		{"a NaN behind", nums(1, 2, hole), api.ErrOdd},
		{"+Inf alone", nums(inf), api.ErrOdd},
		{"-Inf alone", nums(-inf), api.ErrOdd},
		{"+Inf ahead", nums(inf, 1, 2), api.ErrOdd},
		{"-Inf behind", nums(1, 2, -inf), api.ErrOdd},
		{"both infinities", nums(-inf, 1, inf), api.ErrOdd},
		{"a NaN among as many as may be", append(often(longest-1, 1), hole), api.ErrOdd},
		{"an infinity among as many as may be", append(often(longest-1, 1), -inf), api.ErrOdd},
		{"none", nil, api.ErrNone},
		{"none, not nil", nums(), api.ErrNone},
	}
}

// noShares are such as no list has: den is not 1 to 2^31, or num not 0 to den.
func noShares() [][2]int {
	return [][2]int{
		{0, 0}, {1, 0}, {-1, 0}, {0, -1}, {-1, -1}, {-2, -1}, {1, -3}, {2, 1}, {-1, 1}, {-1, 2}, {3, 2}, {finest + 1, finest}, {-1, finest},
		{0, finest + 1}, {1, finest + 1}, {finest, finest + 1}, {finest + 1, finest + 1}, {0, 1 << 32}, {1, 1<<32 + 2}, {1<<32 + 1, 2}, {1 << 33, 1 << 33},
		{0, math.MinInt}, {math.MinInt, math.MinInt}, {math.MinInt, 1}, {math.MaxInt, 1}, {0, math.MaxInt}, {math.MaxInt, math.MaxInt}, {math.MinInt, math.MaxInt},
	}
}

// P16.1: a mode that is none, a share or a rule that is none, then what is amiss with the list: the first of these is told.
func TestQuantileRefusesInOrder(t *testing.T) {
	some := append(refusedLists(), refusedList{"a list", sample(), api.OK}, refusedList{"one", nums(1), api.OK})
	for _, c := range some {
		for _, none := range noModes() {
			for n := range 5 {
				x, e := Quantile(c.l, 1, 2, n, none)
				refuses(t, c.name+", a mode that is none", x, e, api.ErrArg)
				x, e = Quantile(c.l, 1, 2, none, n)
				refuses(t, c.name+", a rule that is none", x, e, api.ErrArg)
				x, e = Quantile(c.l, 0, 1, none, n)
				refuses(t, c.name+", a rule that is none at a whole place", x, e, api.ErrArg)
				x, e = Quantile(c.l, 0, 1, n, none)
				refuses(t, c.name+", a mode that is none at a whole place", x, e, api.ErrArg)
			}
			x, e := Quantile(c.l, 2, 1, none, none)
			refuses(t, c.name+", nothing that may be", x, e, api.ErrArg)
		}
		for _, s := range noShares() {
			x, e := Quantile(c.l, s[0], s[1], api.AtLine, api.Even)
			refuses(t, fmt.Sprintf("%s, %d by %d", c.name, s[0], s[1]), x, e, api.ErrArg)
			x, e = Quantile(c.l, s[0], s[1], api.AtLow, api.Away)
			refuses(t, fmt.Sprintf("%s, %d by %d", c.name, s[0], s[1]), x, e, api.ErrArg)
		}
		if c.e == api.OK {
			continue
		}
		for n := range 5 {
			for _, s := range [][2]int{{0, 1}, {1, 2}, {1, 1}, {finest, finest}} {
				x, e := Quantile(c.l, s[0], s[1], n, 4-n)
				refuses(t, fmt.Sprintf("%s, %d by %d, rule %d", c.name, s[0], s[1], n), x, e, c.e)
			}
		}
	}
}

// P16.1: what is at an end is taken.
func TestQuantileTakesEnds(t *testing.T) {
	for _, n := range []int{1, 2, longest} {
		for _, s := range [][2]int{{0, 1}, {1, 1}, {0, finest}, {finest, finest}, {1, finest}} {
			for k := range 5 {
				x, e := Quantile(often(n, 6), s[0], s[1], k, 4-k)
				answers(t, fmt.Sprintf("%d numbers, %d by %d", n, s[0], s[1]), x, e, 6, api.OK)
			}
		}
	}
}

// P16.3: a mode that is none, parts or a rule that are none, then what is amiss with the list: the first of these is told, and no numbers beside it.
func TestSeveralRefusesInOrder(t *testing.T) {
	refused := func(what string, l []float64, parts, rule, mode int, want api.Errno) {
		t.Helper()
		all, e := Several(l, parts, rule, mode)
		if len(all) > 0 || e != want {
			t.Errorf("%s: %d numbers, error %d; want %d", what, len(all), e, want)
		}
	}
	some := append(refusedLists(), refusedList{"a list", sample(), api.OK}, refusedList{"one", nums(1), api.OK})
	for _, c := range some {
		for _, none := range noModes() {
			for n := range 5 {
				refused(c.name+", a mode that is none", c.l, 2, n, none, api.ErrArg)
				refused(c.name+", a rule that is none", c.l, 2, none, n, api.ErrArg)
			}
			refused(c.name+", nothing that may be", c.l, 0, none, none, api.ErrArg)
		}
		for _, parts := range []int{0, -1, longest + 1, longest + 2, 2 * longest, finest, 1 << 32, 1<<32 + 1, math.MinInt, math.MaxInt, -finest} {
			refused(fmt.Sprintf("%s, %d parts", c.name, parts), c.l, parts, api.AtMid, api.Even, api.ErrArg)
		}
		if c.e == api.OK {
			continue
		}
		for n := range 5 {
			for _, parts := range []int{1, 2, longest} {
				refused(fmt.Sprintf("%s, %d parts, rule %d", c.name, parts, n), c.l, parts, n, 4-n, c.e)
			}
		}
	}
}

// P16.4: a list that is too long, one that is not finite or a NaN asked for, none: the first of these is told.
func TestShareRefusesInOrder(t *testing.T) {
	for _, c := range refusedLists() {
		for _, x := range []float64{0, 1, inf, -inf, greatest} {
			num, den, e := Share(c.l, x)
			shares(t, fmt.Sprintf("%s; %x", c.name, x), num, den, e, 0, 0, c.e)
		}
		want := api.ErrOdd
		if c.e == api.ErrLong {
			want = c.e
		}
		for _, x := range odds() {
			num, den, e := Share(c.l, x)
			shares(t, c.name+"; a NaN", num, den, e, 0, 0, want)
		}
	}
	for _, x := range odds() {
		num, den, e := Share(sample(), x)
		shares(t, "a list; a NaN", num, den, e, 0, 0, api.ErrOdd)
	}
}

// P16.1, P16.3, P16.4: one that is not finite, of any bits, is refused wherever it stands.
func TestOddOnesAreRefused(t *testing.T) {
	for _, odd := range append(odds(), inf, -inf) {
		for n := 1; n < 6; n++ {
			for i := range n {
				l := nums(1, -2, 3, 0, 5)[:n]
				l[i] = odd
				for k := range 5 {
					x, e := Quantile(l, 0, 1, k, k)
					refuses(t, "one that is odd", x, e, api.ErrOdd)
					x, e = Quantile(l, 1, 3, k, k)
					refuses(t, "one that is odd", x, e, api.ErrOdd)
					all, e := Several(l, 3, k, k)
					if len(all) > 0 || e != api.ErrOdd {
						t.Errorf("one that is odd: Several tells %v, error %d", all, e)
					}
				}
				for _, x := range []float64{0, inf, -inf} {
					num, den, e := Share(l, x)
					shares(t, "one that is odd", num, den, e, 0, 0, api.ErrOdd)
				}
			}
		}
	}
}
