package slide

import (
	"slices"
	"testing"

	"steelyard/api"
)

// P20.2: all lists of a few numbers of every kind, behind others that went.
func TestShortLists(t *testing.T) {
	for n := range 4 {
		eachList(n, sorts(), func(l []float64) {
			w := pairUp(t, 2, l...)
			w.tells()
		})
	}
	few := nums(1, -1, noughtBelow, 0, inf, hole)
	eachList(5, few, func(l []float64) {
		w := pairUp(t, 3, l...)
		w.ends()
		for mode := range 5 {
			w.asks(mode, plain)
		}
	})
}

// P20.2: windows of all kinds of numbers, asked behind each Push.
func TestWindows(t *testing.T) {
	d := dice(201)
	for _, kind := range kinds() {
		for size := 1; size <= 7; size++ {
			w := pairUp(t, size)
			for range 4*size + 3 {
				w.push(kind(&d))
				w.tells()
			}
		}
	}
}

// P20.2: greater windows, far beyond the Push that fills them.
func TestGreatWindows(t *testing.T) {
	d := dice(202)
	for _, size := range []int{50, 333, widest - 1, widest} {
		for i, kind := range kinds() {
			if size > 333 && i%3 != 0 {
				continue
			}
			w := pairUp(t, size)
			for round := range 6 {
				w.push(d.list(size/2+1+round, kind)...)
				w.glance(&d)
			}
		}
	}
}

// P20.2: what is far greater goes, and what it had swallowed is told.
func TestWhatIsGreaterGoes(t *testing.T) {
	for _, x := range nums(1e16, 1e100, greatest, -greatest, 0x1p970, inf, -inf, hole) {
		for _, y := range nums(1, 0.1, least, -least, normal, 0x1p-53) {
			for size := 2; size <= 5; size++ {
				w := pairUp(t, size, x)
				w.push(often(size-1, y)...)
				w.tells()
				w.push(turned(y))
				w.tells()
				if size == 2 {
					sum, e := w.s.Sum(api.Down, plain)
					want(t, "y, less y", sum, e, noughtBelow)
				}
			}
		}
	}
}

// P20.2: what cancels within the window leaves what is left just so.
func TestWhatCancels(t *testing.T) {
	w := pairUp(t, 4, 9, 1e16, 1, -1e16, 0x1p-30)
	x, e := w.s.Sum(api.Even, plain)
	want(t, "1 + 2^-30", x, e, 1+0x1p-30)
	w.tells()
	w.push(0x1p1000, greatest, -greatest, -0x1p1000)
	x, e = w.s.Sum(api.Even, plain)
	want(t, "nothing is left", x, e, 0)
	x, e = w.s.Mean(api.Down, plain)
	want(t, "its mean", x, e, noughtBelow)
	w.tells()
	w.push(greatest, greatest)
	w.tells()
	w.push(greatest, greatest)
	x, e = w.s.Sum(api.Even, plain)
	want(t, "beyond the greatest", x, e, inf)
	x, e = w.s.Mean(api.Even, plain)
	want(t, "the mean is not", x, e, greatest)
	w.tells()
}

// P20.2: answers that lie halfway between two numbers, and next to it, by every mode.
func TestHalfway(t *testing.T) {
	for _, off := range nums(0, least, -least, 0x1p-100, -0x1p-100) {
		for _, sign := range nums(1, -1) {
			w := pairUp(t, 3, 7, sign, sign*0x1p-53, off)
			w.tells()
			w.push(sign*(1+0x1p-52), sign*0x1p-53, off)
			w.tells()
			w.push(sign*least, off, 0)
			w.tells()
			w = pairUp(t, 2, inf, sign*least, off)
			w.tells()
			w.push(sign, sign*(1+0x1p-52))
			w.tells()
			w.push(sign*greatest, sign*0x1p970)
			w.tells()
			w.push(sign*0x1p970-off, sign*greatest)
			w.tells()
		}
	}
	s := pushed(2, hole, 1, 1+0x1p-52)
	for mode, is := range []float64{1, 1, 1 + 0x1p-52, 1, 1 + 0x1p-52} {
		x, e := s.Mean(mode, plain)
		want(t, "halfway from 1", x, e, is)
	}
	s = pushed(2, inf, 1, 0x1p-53)
	for mode, is := range []float64{1, 1, 1 + 0x1p-52, 1, 1 + 0x1p-52} {
		x, e := s.Sum(mode, plain)
		want(t, "1 and half a step", x, e, is)
	}
	// Of x times 0, 1, 1, 2 the squares about the mean come to x^2 / 2 each: with this x to half of the least one.
	w := pairUp(t, 4, 9, 0, 0x1p-537, 0x1p-537, 0x1p-536)
	w.tells()
	for mode, is := range []float64{0, 0, least, 0, least} {
		x, e := w.s.Var(0, mode, plain)
		want(t, "half of the least one", x, e, is)
	}
}

// P20.2: noughts of either sign, alone and beside others that cancel; what goes changes the sign.
func TestNoughts(t *testing.T) {
	for n := 1; n <= 6; n++ {
		eachList(n, nums(0, noughtBelow), func(l []float64) {
			for size := 1; size <= n; size++ {
				w := pairUp(t, size, l...)
				w.tells()
			}
		})
	}
	s := pushed(3, 0, noughtBelow, noughtBelow)
	for mode := range 5 {
		is := 0.0
		if mode == api.Down {
			is = noughtBelow
		}
		x, e := s.Sum(mode, plain)
		want(t, "noughts of both signs", x, e, is)
		x, e = s.Mean(mode, plain)
		want(t, "their mean", x, e, is)
		x, e = s.Var(1, mode, plain)
		want(t, "their spread", x, e, 0)
	}
	s.Push(noughtBelow)
	for mode := range 5 {
		x, e := s.Sum(mode, plain)
		want(t, "-0 alone", x, e, noughtBelow)
		x, e = s.Mean(mode, plain)
		want(t, "their mean", x, e, noughtBelow)
		x, e = s.Var(1, mode, plain)
		want(t, "their spread", x, e, 0)
	}
}

// P20.2: means that are not nought, and come to one, have their own sign.
func TestMeansThatComeToNought(t *testing.T) {
	s := pushed(3, 1, least, 0, 0)
	x, e := s.Mean(api.Even, plain)
	want(t, "a third of the least one", x, e, 0)
	s = pushed(3, 1, -least, 0, 0)
	x, e = s.Mean(api.Even, plain)
	want(t, "less a third of it", x, e, noughtBelow)
	x, e = s.Mean(api.Down, plain)
	want(t, "less a third of it, down", x, e, -least)
	s = pushed(2, 1, greatest, greatest)
	x, e = s.Mean(api.Even, plain)
	want(t, "the greatest twice", x, e, greatest)
}

// P20.2: the variance is that of the list: of numbers that lie close to each other far from nought, of one, of equal ones, of the greatest.
func TestSpreads(t *testing.T) {
	s := pushed(3, -1e300, 1e8+1, 1e8+2, 1e8+3)
	x, e := s.Var(0, api.Even, plain)
	want(t, "by n", x, e, 0.6666666666666666)
	x, e = s.Var(1, api.Even, plain)
	want(t, "by n - 1", x, e, 1)
	s = pushed(4, hole, inf, 1e300, 1, 2, 3, 4)
	x, e = s.Var(1, api.Even, plain)
	want(t, "1 2 3 4", x, e, 1.6666666666666667)
	s = pushed(1, 3, 5)
	x, e = s.Var(0, api.Even, plain)
	want(t, "of one", x, e, 0)
	x, e = s.Var(1, api.Even, plain)
	refuses(t, "of one, less 1", x, e, api.ErrNone)
	s = pushed(5, often(9, greatest)...)
	x, e = s.Var(0, api.Up, plain)
	want(t, "of equal ones", x, e, 0)
	s.Push(-greatest)
	x, e = s.Var(0, api.Even, plain)
	want(t, "beyond the greatest", x, e, inf)
	x, e = s.Var(0, api.Zero, plain)
	want(t, "beyond the greatest, towards nought", x, e, greatest)
	s = pushed(widest, append(often(widest, -7), slices.Concat(often(widest/2, greatest), often(widest/2, -greatest))...)...)
	x, e = s.Var(0, api.Down, plain)
	want(t, "all of the greatest", x, e, greatest)
	x, e = s.Mean(api.Even, plain)
	want(t, "their mean", x, e, 0)
}

// P20.2: a window full of what is special, till it has gone: each count goes down again.
func TestSpecialsGo(t *testing.T) {
	for _, x := range append(odds(), inf, -inf, 0, noughtBelow) {
		for size := 1; size <= 4; size++ {
			w := pairUp(t, size, often(size, x)...)
			w.tells()
			for i := range size {
				w.push(float64(i + 1))
				w.tells()
			}
			sum, e := w.s.Sum(api.Even, api.Policy{NaN: api.Refuse, Inf: api.Refuse})
			want(t, "all that was special is gone", sum, e, float64(size*(size+1)/2))
		}
	}
}
