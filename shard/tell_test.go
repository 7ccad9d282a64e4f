package shard

import (
	"slices"
	"testing"

	"steelyard/api"
)

// P21.2: all lists of a few numbers of every kind.
func TestShortLists(t *testing.T) {
	for n := range 4 {
		eachList(n, sorts(), func(l []float64) { tells(t, of(l...), l) })
	}
}

// P21.2: lists of all kinds, held against the layers below.
func TestLists(t *testing.T) {
	d := dice(213)
	for _, kind := range kinds() {
		for n := 1; n <= 12; n++ {
			l := d.list(n, kind)
			tells(t, of(l...), l)
		}
		l := d.list(300, kind)
		s := of(l...)
		asks(t, s, l, d.below(5), carry, 0, 1)
		asks(t, s, l, d.below(5), policies()[d.below(9)], 0, 1)
	}
}

// P21.2: likewise, held against whole numbers of the library.
func TestListsByTheBook(t *testing.T) {
	d := dice(214)
	for _, kind := range kinds() {
		for _, n := range []int{1, 2, 3, 5, 9, 100} {
			l := d.list(n, kind)
			keeps(t, "a list", of(l...), newBook(l...))
		}
	}
}

// P21.2: a list as long as may be below, and one that is longer than what is taken there.
func TestNoListIsTooLong(t *testing.T) {
	d := dice(215)
	l := d.list(longest, func(d *dice) float64 { return d.sized(-3, 3) })
	s, b := of(l...), newBook(l...)
	asks(t, s, l, api.Even, carry, 0, 1)
	asks(t, s, l, api.Up, carry, 1)
	for _, x := range nums(0.1, -1e300, noughtBelow, hole, inf) {
		s.Add(x)
		b.add(x)
	}
	keeps(t, "beyond MaxList", s, b)
	for s.Count() < most40/2 {
		s.Merge(s)
		b.merge(b)
	}
	keeps(t, "far beyond MaxList", s, b)
}

// P21.2: many of the greatest and of the least numbers: sums, squares at the ends of what there can be.
func TestTheMostOfAll(t *testing.T) {
	for _, x := range nums(greatest, -greatest, tiny, -tiny, normal, 0x1.fffffffffffffp511, 0x1p-537, 1, 0.1) {
		s, b := doubled(t, 39, x)
		keeps(t, "2^39 times", s, b)
		other, page := doubled(t, 39, -x)
		s.Merge(other)
		b.merge(page)
		keeps(t, "and as often its opposite", s, b)
		s, b = doubled(t, 40, x)
		keeps(t, "2^40 times", s, b)
	}
	s, b := doubled(t, 39, greatest)
	for i := range 39 {
		other, page := doubled(t, i, tiny)
		s.Merge(other)
		b.merge(page)
	}
	keeps(t, "the greatest and the least", s, b)
}

// P21.2: what cancels leaves what is left just so.
func TestWhatCancels(t *testing.T) {
	s := of(1e16, 1, -1e16, 0x1p-30)
	x, e := s.Sum(api.Even, carry)
	want(t, "1 + 2^-30", x, e, 1+0x1p-30)
	s = of(greatest, greatest, 7, -greatest, -greatest, -7)
	x, e = s.Sum(api.Even, carry)
	want(t, "nothing is left", x, e, 0)
	x, e = s.Mean(api.Down, carry)
	want(t, "its mean", x, e, noughtBelow)
	s.Add(tiny)
	x, e = s.Sum(api.Down, carry)
	want(t, "the least one is left", x, e, tiny)
	for _, x := range nums(1e16, 1e100, greatest, -greatest, 0x1p970) {
		for _, y := range nums(1, 0.1, tiny, -tiny, normal, 0x1p-53) {
			tells(t, of(x, y, -x), nums(x, y, -x))
			tells(t, of(x, y, -x, -y), nums(x, y, -x, -y))
		}
	}
}

// P21.2: answers that lie halfway between two numbers, and next to it, by every mode.
func TestHalfway(t *testing.T) {
	for _, off := range nums(0, tiny, -tiny, 0x1p-100, -0x1p-100) {
		for _, sign := range nums(1, -1) {
			for _, l := range [][]float64{
				nums(sign, sign*0x1p-53, off), nums(sign*(1+0x1p-52), sign*0x1p-53, off), nums(sign*tiny, off, 0), nums(sign*tiny, off),
				nums(sign, sign*(1+0x1p-52)), nums(sign, sign*(1+0x1p-52), off), nums(sign*greatest, sign*0x1p970), nums(sign*greatest, sign*0x1p970, off),
				nums(sign*greatest, sign*greatest, off), nums(off, 0x1p-537, 0x1p-537, 0x1p-536),
			} {
				tells(t, of(l...), l)
				keeps(t, "halfway", of(l...), newBook(l...))
			}
		}
	}
	up := 1 + 0x1p-52
	for mode, is := range nums(1, 1, up, 1, up) {
		x, e := of(1, 0x1p-53).Sum(mode, carry)
		want(t, "1 and half a step", x, e, is)
		x, e = of(1, up).Mean(mode, carry)
		want(t, "halfway from 1", x, e, is)
	}
	// Of x times 0, 1, 1, 2 the squares about the mean come to x^2 / 2 each: with this x to half of the least one.
	for mode, is := range nums(0, 0, tiny, 0, tiny) {
		x, e := of(0, 0x1p-537, 0x1p-537, 0x1p-536).Var(0, mode, carry)
		want(t, "half of the least one", x, e, is)
	}
}

// P21.2: noughts of either sign, alone and beside others that cancel.
func TestNoughts(t *testing.T) {
	for n := 1; n <= 5; n++ {
		eachList(n, nums(0, noughtBelow), func(l []float64) {
			tells(t, of(l...), l)
			tells(t, of(append(l, 3, -3)...), append(l, 3, -3))
			tells(t, of(append(l, hole, inf)...), append(l, hole, inf))
		})
	}
	for mode := range 5 {
		is := 0.0
		if mode == api.Down {
			is = noughtBelow
		}
		for _, l := range [][]float64{nums(0, noughtBelow), nums(1, -1), nums(noughtBelow, 1, -1), nums(0, 1, -1)} {
			x, e := of(l...).Sum(mode, carry)
			want(t, "a sum that is nought", x, e, is)
			x, e = of(l...).Mean(mode, carry)
			want(t, "a mean that is", x, e, is)
		}
		x, e := of(noughtBelow, noughtBelow).Mean(mode, carry)
		want(t, "of -0 alone", x, e, noughtBelow)
		x, e = of(0, 0).Mean(mode, carry)
		want(t, "of +0 alone", x, e, 0)
		x, e = of(noughtBelow, noughtBelow).Var(1, mode, carry)
		want(t, "their variance", x, e, 0)
	}
}

// P21.2: means that are not nought, and come to one, have their own sign.
func TestMeansThatComeToNought(t *testing.T) {
	x, e := of(tiny, 0, 0).Mean(api.Even, carry)
	want(t, "a third of the least one", x, e, 0)
	x, e = of(-tiny, 0, 0).Mean(api.Even, carry)
	want(t, "less a third of it", x, e, noughtBelow)
	x, e = of(-tiny, 0, 0).Mean(api.Down, carry)
	want(t, "less a third of it, down", x, e, -tiny)
	x, e = of(greatest, greatest).Mean(api.Even, carry)
	want(t, "the greatest twice", x, e, greatest)
}

// P21.2: variances of numbers that lie close together far from nought, of one, of equal ones, of the greatest.
func TestSpreads(t *testing.T) {
	s := of(1e8+1, 1e8+2, 1e8+3)
	x, e := s.Var(0, api.Even, carry)
	want(t, "by n", x, e, 0.6666666666666666)
	x, e = s.Var(1, api.Even, carry)
	want(t, "by n - 1", x, e, 1)
	x, e = of(5).Var(0, api.Even, carry)
	want(t, "of one", x, e, 0)
	x, e = of(5).Var(1, api.Even, carry)
	refuses(t, "of one, less 1", x, e, api.ErrNone)
	x, e = of(often(9, 0.1)...).Var(0, api.Up, carry)
	want(t, "of equal ones", x, e, 0)
	s = of(greatest, -greatest)
	x, e = s.Var(0, api.Even, carry)
	want(t, "beyond the greatest", x, e, inf)
	x, e = s.Var(0, api.Zero, carry)
	want(t, "beyond the greatest, towards nought", x, e, greatest)
	for _, l := range [][]float64{often(5, greatest), nums(1e200, -1e200), slices.Concat(often(4, tiny), often(3, -tiny)), nums(0x1p-537, -0x1p-537)} {
		tells(t, of(l...), l)
	}
}
