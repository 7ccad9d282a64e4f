package rank

import (
	"slices"
	"testing"

	"steelyard/api"
)

// roomy is a list with spare room behind it, and a way to ask whether either was changed.
func roomy(l []float64) (list []float64, kept func() bool) {
	all := append(slices.Clone(l), 5, -7, 9)
	was := slices.Clone(all)
	return all[:len(l)], func() bool { return slices.EqualFunc(all, was, sameBits) }
}

func handed() [][]float64 {
	d := dice(171)
	return [][]float64{nil, {3}, {2, 1}, {9, 1, 2, 100}, {5, hole, 1, turned(hole), -inf, 0, noughtBelow}, d.list(50, d.any), d.list(51, d.finite), d.list(52, d.crowd()), often(53, 0.1), d.list(longest+1, d.any)}
}

// R2: no list is changed, nor the spare room behind it, also where a call is refused.
func TestListsStayAsTheyAre(t *testing.T) {
	for _, a := range handed() {
		l, kept := roomy(a)
		Sort(l)
		Places(l)
		for n := -1; n < 6; n++ {
			Ranks(l, n)
			Median(l, n)
			Pick(l, n)
		}
		Pick(l, len(l)-1)
		if !kept() {
			t.Errorf("a list of %d numbers was changed", len(a))
		}
	}
}

// fill writes over all of an answer, its spare room too.
func fill[T int | float64](l []T) {
	l = l[:cap(l)]
	for i := range l {
		l[i] = -77
	}
}

// R2: what is answered is its owner's, its spare room too: written over, it changes neither the list nor another answer; nor does an answer change with the list.
func TestAnswersAreNew(t *testing.T) {
	for _, a := range handed() {
		l, kept := roomy(a)
		sorted, at := Sort(l), Places(l)
		wasSorted, wasAt := slices.Clone(sorted), slices.Clone(at)
		var ranks, was [5][]float64
		for tie := range ranks {
			ranks[tie], _ = Ranks(l, tie)
			was[tie] = slices.Clone(ranks[tie])
		}
		fill(Sort(l))
		fill(Places(l))
		for tie := range ranks {
			r, _ := Ranks(l, tie)
			fill(r)
		}
		if !kept() {
			t.Errorf("a list of %d numbers was changed by what was answered", len(a))
		}
		fill(l)
		lists(t, "Sort, kept", sorted, wasSorted)
		places(t, "Places, kept", at, wasAt)
		for tie := range ranks {
			lists(t, "Ranks, kept", ranks[tie], was[tie])
			fill(ranks[tie])
			for other := tie + 1; other < len(ranks); other++ {
				lists(t, "Ranks of another tie, kept", ranks[other], was[other])
			}
		}
	}
}

// R3: nil and an empty list are the same.
func TestNilAndEmpty(t *testing.T) {
	room := make([]float64, 0, 4)
	for _, l := range [][]float64{nil, {}, room} {
		lists(t, "Sort of none", Sort(l), nil)
		places(t, "Places of none", Places(l), nil)
		for n := range 5 {
			r, e := Ranks(l, n)
			lists(t, "Ranks of none", r, nil)
			if e != api.OK {
				t.Errorf("Ranks of none, tie %d: error %d", n, e)
			}
			x, e := Median(l, n)
			refuses(t, "Median of none", x, e, api.ErrNone)
			x, e = Pick(l, n)
			refuses(t, "Pick of none", x, e, api.ErrNone)
		}
	}
}

// R6: the same call answers the same, whatever was asked before.
func TestNothingIsKept(t *testing.T) {
	d := dice(172)
	l := d.list(40, d.finite)
	ask := func() []float64 {
		all := Sort(l)
		for _, place := range Places(l) {
			x, _ := Pick(l, place)
			all = append(all, x, float64(place))
		}
		for n := range 5 {
			r, _ := Ranks(l, n)
			x, _ := Median(l, n)
			all = append(append(all, r...), x)
		}
		return all
	}
	first := ask()
	Sort(often(longest, hole))
	Median(nums(inf, -inf), api.Even)
	Ranks(nums(1, 1, 1), api.TieHigh)
	lists(t, "asked again", ask(), first)
}
