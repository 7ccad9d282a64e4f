package fit

import (
	"slices"
	"testing"

	"steelyard/api"
)

// roomy is a list with spare room behind it, and a way to ask whether either was changed.
func roomy(l []float64) (list []float64, kept func() bool) {
	all := append(slices.Clone(l), 5, -7, 9)
	was := slices.Clone(all)
	return all[:len(l)], func() bool { return slices.EqualFunc(all, was, sameBits) }
}

// told is all that is told of points by one mode, with its errors.
func told(x, y []float64, at float64, mode int) []float64 {
	f, d := Line(x, y, mode)
	v, e := At(x, y, at, mode)
	w, g := Through(x, y, mode)
	return nums(float64(f.N), f.Slope, f.Cut, f.Told, f.Left, v, w, float64(d), float64(e), float64(g))
}

// R2: no list is changed, nor the spare room behind it, also where a call is refused, and where one list stands at both places.
func TestListsStayAsTheyAre(t *testing.T) {
	d := dice(214)
	lists := [][]float64{nil, {3}, {9, 1, 2, 100}, {5, hole, 1, -inf}, {0, noughtBelow, 0, 0}, d.list(51, d.finite), d.list(51, d.near()), often(51, 0.1), often(longest+1, 2)}
	for _, a := range lists {
		for _, b := range lists {
			x, xKept := roomy(a)
			y, yKept := roomy(b)
			for mode := -1; mode < 6; mode++ {
				for _, at := range nums(3, 0.1, hole, inf) {
					told(x, y, at, mode)
					told(y, x, at, mode)
					told(x, x, at, mode)
				}
			}
			if !xKept() || !yKept() {
				t.Fatalf("a list of %d or of %d numbers was changed", len(a), len(b))
			}
		}
	}
}

// R2: lists may share memory with each other: a row of which x and y are pieces that overlap.
func TestListsMayOverlap(t *testing.T) {
	d := dice(215)
	row := d.list(50, d.near())
	for n := 2; n < 30; n++ {
		x, y := row[:n], row[n/2:n/2+n]
		for mode := range 5 {
			if !slices.EqualFunc(told(x, y, 3, mode), told(slices.Clone(x), slices.Clone(y), 3, mode), sameBits) {
				t.Errorf("pieces of %d numbers that overlap, mode %d: it is not the same", n, mode)
			}
		}
	}
}

// R2, R6: nothing is kept: what was told stays, whatever becomes of the lists; and the same call answers the same, whatever was asked before.
func TestNothingIsKept(t *testing.T) {
	d := dice(216)
	x, y := d.list(40, d.finite), d.list(40, d.near())
	ask := func(x, y []float64) []float64 {
		var all []float64
		for mode := range 5 {
			all = append(all, told(x, y, -0.1, mode)...)
		}
		return all
	}
	was := [2][]float64{slices.Clone(x), slices.Clone(y)}
	first := ask(x, y)
	Line(often(longest, hole), often(longest, 1), api.Even)
	At(nums(1, 2), nums(1), 0, api.Even)
	Through(nums(0), nums(0), api.Even)
	if !slices.EqualFunc(ask(x, y), first, sameBits) {
		t.Error("asked again, it is not the same")
	}
	for i := range x {
		x[i], y[i] = float64(i), 7
	}
	f, e := Line(x, y, api.Even)
	fits(t, "other numbers in the same lists", f, e, api.Fit{N: 40, Cut: 7, Told: 1}, api.OK)
	if !slices.EqualFunc(ask(was[0], was[1]), first, sameBits) {
		t.Error("of copies, it is not the same")
	}
}

// R3: nil and an empty list are the same.
func TestNilAndEmpty(t *testing.T) {
	for mode := -1; mode < 6; mode++ {
		for _, c := range [][2][]float64{{nil, {}}, {{}, nil}, {{}, {}}} {
			for _, at := range nums(0, hole) {
				if !slices.EqualFunc(told(c[0], c[1], at, mode), told(nil, nil, at, mode), sameBits) {
					t.Errorf("mode %d: nil and an empty list are not the same", mode)
				}
			}
			for _, other := range [][]float64{{1}, {hole}} {
				if !slices.EqualFunc(told(c[0], other, 1, mode), told(nil, other, 1, mode), sameBits) || !slices.EqualFunc(told(other, c[1], 1, mode), told(other, nil, 1, mode), sameBits) {
					t.Errorf("mode %d: nil and an empty list are not the same beside another list", mode)
				}
			}
		}
	}
}
