package moment

import (
	"slices"
	"testing"

	"steelyard/api"
	"steelyard/dyad"
)

// roomy is a list with spare room behind it, and a way to ask whether either was changed.
func roomy(l []float64) (list []float64, kept func() bool) {
	all := append(slices.Clone(l), 5, -7, 9)
	was := slices.Clone(all)
	return all[:len(l)], func() bool { return slices.EqualFunc(all, was, sameBits) }
}

// P14.6: no list is changed, nor the spare room behind it, also where a call is refused.
func TestListsStayAsTheyAre(t *testing.T) {
	d := dice(181)
	lists := [][]float64{nil, {3}, {9, 1, 2, 100}, {5, hole, 1, -inf, 0, noughtBelow}, d.list(50, d.any), d.list(51, d.finite), d.list(51, d.near()), often(51, 0.1)}
	for _, a := range lists {
		for _, b := range lists {
			l, lKept := roomy(a)
			m, mKept := roomy(b)
			for mode := -1; mode < 6; mode++ {
				for less := -1; less < 3; less++ {
					for _, p := range append(policies(), api.Policy{NaN: 3}) {
						Var(l, less, mode, p)
						Std(l, less, mode, p)
					}
					Co(l, m, less, mode)
					Co(m, l, less, mode)
					Co(l, l, less, mode)
				}
				for k := range 6 {
					Central(l, k, mode)
				}
				Link(l, m, mode)
				Link(m, l, mode)
				Link(l, l, mode)
			}
			if !lKept() || !mKept() {
				t.Fatalf("a list of %d or of %d numbers was changed", len(a), len(b))
			}
		}
	}
}

// words are Dyads of many kinds: in their form and not, noughts, long ones, such as may not be.
func words() []api.Dyad {
	return append(long(), dyad.Int(7), dyad.Int(-6), api.Dyad{}, api.Dyad{Neg: true, Mag: api.Nat{0, 14, 0}, Exp: -32}, api.Dyad{Mag: api.Nat{0, 0}, Exp: 9},
		api.Dyad{Mag: api.Nat{8, 1}, Exp: api.MaxExp}, api.Dyad{Neg: true, Mag: api.Nat{1, 2, 3, 4}, Exp: -2000}, two(300000), ones(2000))
}

// P14.6: no Dyad is changed, in its form or not, nor the spare room behind its words, also where one stands at both places.
func TestDyadsStayAsTheyAre(t *testing.T) {
	room := func(d api.Dyad) (handed api.Dyad, kept func() bool) {
		all := append(slices.Clone(d.Mag), 11, 12, 13)
		was := slices.Clone(all)
		return api.Dyad{Neg: d.Neg, Mag: all[:len(d.Mag)], Exp: d.Exp}, func() bool { return slices.Equal(all, was) }
	}
	for _, a := range words() {
		for _, b := range words() {
			sum, sumKept := room(a)
			squares, squaresKept := room(b)
			for mode := -1; mode < 6; mode++ {
				for _, n := range []int{0, 1, 3, api.MaxCount} {
					for less := -1; less < 3; less++ {
						Of(n, sum, squares, less, mode)
						Of(n, sum, sum, less, mode)
					}
				}
			}
			if !sumKept() || !squaresKept() {
				t.Errorf("a Dyad of %d words, Exp %d, or of %d, Exp %d, was changed", len(a.Mag), a.Exp, len(b.Mag), b.Exp)
			}
		}
	}
}

// R6: the same call answers the same, whatever was asked before.
func TestNothingIsKept(t *testing.T) {
	d := dice(182)
	l, m := d.list(40, d.finite), d.list(40, d.near())
	ask := func() []float64 {
		var all []float64
		for mode := range 5 {
			for _, row := range [][]float64{l, m} {
				v, _ := Var(row, 1, mode, api.Policy{})
				w, _ := Std(row, 0, mode, api.Policy{})
				x, _ := Central(row, 3, mode)
				y, _ := Co(row, m, 1, mode)
				z, _ := Link(row, m, mode)
				all = append(all, v, w, x, y, z)
			}
			x, _ := Of(7, dyad.Int(10), dyad.Int(30), 1, mode)
			all = append(all, x)
		}
		return all
	}
	first := ask()
	Var(often(longest, hole), 0, api.Even, api.Policy{})
	Link(nums(1), nums(1, 2), api.Even)
	if !slices.EqualFunc(ask(), first, sameBits) {
		t.Error("asked again, it is not the same")
	}
}
