package quant

import (
	"slices"
	"testing"

	"steelyard/api"
)

// roomy is a list with spare room behind it, and a way to ask whether either was changed.
func roomy(l []float64) (list []float64, kept func() bool) {
	all := append(slices.Clone(l), 5, -7, 9)
	was := slices.Clone(all)
	return all[:len(l)], func() bool { return slices.EqualFunc(all, was, sameBits) }
}

func handed() [][]float64 {
	d := dice(206)
	return [][]float64{nil, {3}, {2, 1}, {9, 1, 2, 100}, {5, hole, 1, -inf}, {0, noughtBelow, 0}, d.list(50, d.finite), d.list(51, d.crowd()), often(52, 0.1), d.list(longest+1, d.finite)}
}

// R2: no list is changed, nor the spare room behind it, also where a call is refused.
func TestListsStayAsTheyAre(t *testing.T) {
	for _, a := range handed() {
		l, kept := roomy(a)
		for n := -1; n < 6; n++ {
			for _, den := range []int{0, 1, 2, 3, finest} {
				Quantile(l, den/2, den, n, api.Up)
				Quantile(l, 0, den, n, api.Even)
				Quantile(l, den, den, api.AtLine, n)
				Several(l, den, n, api.Down)
			}
			Several(l, 3, api.AtMid, n)
		}
		for _, x := range []float64{0, 1, inf, hole} {
			Share(l, x)
		}
		if !kept() {
			t.Errorf("a list of %d numbers was changed", len(a))
		}
	}
}

// fill writes over all of an answer, its spare room too.
func fill(l []float64) {
	l = l[:cap(l)]
	for i := range l {
		l[i] = -77
	}
}

// R2: what is answered is its owner's, its spare room too: written over, it changes neither the list nor another answer; nor does an answer change with the list.
func TestAnswersAreNew(t *testing.T) {
	for _, a := range handed() {
		for _, parts := range []int{1, 3, max(1, min(len(a), longest)-1)} {
			l, kept := roomy(a)
			var all, was [5][]float64
			for rule := range all {
				all[rule], _ = Several(l, parts, rule, api.Even)
				was[rule] = slices.Clone(all[rule])
				again, _ := Several(l, parts, rule, api.Even)
				fill(again)
			}
			if !kept() {
				t.Errorf("a list of %d numbers was changed by what was answered", len(a))
			}
			fill(l)
			for rule := range all {
				lists(t, "Several, kept", all[rule], was[rule])
				fill(all[rule])
			}
		}
	}
}

// R3: nil and an empty list are the same.
func TestNilAndEmpty(t *testing.T) {
	room := make([]float64, 0, 4)
	for _, l := range [][]float64{nil, {}, room} {
		for n := range 5 {
			x, e := Quantile(l, 1, 2, n, n)
			refuses(t, "Quantile of none", x, e, api.ErrNone)
			all, e := Several(l, 2, n, n)
			if len(all) > 0 || e != api.ErrNone {
				t.Errorf("Several of none: %v, error %d", all, e)
			}
		}
		num, den, e := Share(l, 1)
		shares(t, "Share of none", num, den, e, 0, 0, api.ErrNone)
	}
}

// R6: the same call answers the same, whatever was asked before.
func TestNothingIsKept(t *testing.T) {
	d := dice(207)
	l := d.list(40, d.finite)
	ask := func() []float64 {
		var all []float64
		for n := range 5 {
			x, _ := Quantile(l, 1, 3, n, n)
			some, _ := Several(l, 7, n, 4-n)
			all = append(append(all, some...), x)
		}
		num, den, _ := Share(l, 0)
		return append(all, float64(num), float64(den))
	}
	first := ask()
	Several(often(longest, 3), longest, api.AtLine, api.Up)
	Quantile(nums(inf, -inf), 1, 2, api.AtMid, api.Even)
	Share(nums(1, 1, 1), hole)
	lists(t, "asked again", ask(), first)
}
