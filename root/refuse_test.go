package root

import (
	"math"
	"testing"

	"steelyard/api"
)

// oneSided tells what the four calls of one ratio refuse, by their names, with a mode.
func oneSided(t *testing.T, r api.Ratio, mode int, want, wantRoot api.Errno) {
	t.Helper()
	x, e := Quot(r, mode)
	refused(t, "Quot", r, mode, x == 0 && !math.Signbit(x), e, want)
	y, e := Quot32(r, mode)
	refused(t, "Quot32", r, mode, y == 0 && !math.Signbit(float64(y)), e, want)
	x, e = Root(r, mode)
	refused(t, "Root", r, mode, x == 0 && !math.Signbit(x), e, wantRoot)
	y, e = Root32(r, mode)
	refused(t, "Root32", r, mode, y == 0 && !math.Signbit(float64(y)), e, wantRoot)
}

// refused fails unless there is just this error, and nothing beside it, if it is one.
func refused(t *testing.T, name string, r api.Ratio, mode int, empty bool, e, want api.Errno) {
	t.Helper()
	if e != want || e != api.OK && !empty {
		t.Errorf("%s of %s by %d: error %d (a number beside it: %t); want %d", name, told(r), mode, e, !empty, want)
	}
}

// nums are of all sorts: above, below, nought, and such as Make refuses, of either sign.
func nums() []api.Dyad {
	l := []api.Dyad{in(3), dy(true, -1, 6, 0), {}, dy(true, math.MaxInt, 0)}
	for _, d := range past()[:8] {
		l = append(l, d, less(d))
	}
	return l
}

func ratios() []api.Ratio {
	var l []api.Ratio
	for _, n := range nums() {
		for _, d := range nums() {
			l = append(l, api.Ratio{Num: n, Den: d})
		}
	}
	return l
}

// The order of what is refused of one ratio: a mode, a Den below nought, what Make refuses, a Den that is nought, a value below nought.
func TestRefusalsOfOne(t *testing.T) {
	for _, r := range ratios() {
		want := amiss(r)
		wantRoot := want
		if want == api.OK && valueOf(r.Num).m.Sign() < 0 {
			wantRoot = api.ErrBelow
		}
		for mode := range 5 {
			oneSided(t, r, mode, want, wantRoot)
		}
		for _, mode := range noModes() {
			oneSided(t, r, mode, api.ErrArg, api.ErrArg)
		}
	}
}

// By hand: two faults at once, of one ratio.
func TestRefusalsOfOneByHand(t *testing.T) {
	long, words := two(api.MaxExp+1), api.Dyad{Mag: ones(limit + 1)}
	for _, c := range []struct {
		name           string
		r              api.Ratio
		mode           int
		want, wantRoot api.Errno
	}{
		{"a mode, and a Den of nought", by(1, 0), 5, api.ErrArg, api.ErrArg},
		{"a mode, and a Num that is refused", over(long), -1, api.ErrArg, api.ErrArg},
		{"a mode, and a value below nought", by(-1, 3), 5, api.ErrArg, api.ErrArg},
		{"a Den below nought, and a Num that is refused", api.Ratio{Num: long, Den: in(-1)}, 0, api.ErrArg, api.ErrArg},
		{"a Den below nought that is refused", api.Ratio{Num: in(1), Den: less(words)}, 0, api.ErrArg, api.ErrArg},
		{"a Den below nought, far out", api.Ratio{Num: in(1), Den: less(two(math.MinInt))}, 0, api.ErrArg, api.ErrArg},
		{"a Num that is refused, and a Den of nought", api.Ratio{Num: words, Den: in(0)}, 0, api.ErrLong, api.ErrLong},
		{"a Num below nought that is refused", over(less(words)), 0, api.ErrLong, api.ErrLong},
		{"a Num below nought, and a Den that is refused", api.Ratio{Num: in(-1), Den: long}, 0, api.ErrLong, api.ErrLong},
		{"nought, and a Den that is refused", api.Ratio{Num: in(0), Den: long}, 0, api.ErrLong, api.ErrLong},
		{"a Num below nought, and a Den of nought", by(-1, 0), 0, api.ErrNought, api.ErrNought},
		{"nought by nought", by(0, 0), 0, api.ErrNought, api.ErrNought},
		{"a Den of nought that says it is below", api.Ratio{Num: in(1), Den: dy(true, 5, 0, 0)}, 0, api.ErrNought, api.ErrNought},
		{"a Den of nought, its Exp far out", api.Ratio{Num: in(1), Den: dy(true, math.MaxInt)}, 0, api.ErrNought, api.ErrNought},
		{"a Num below nought", by(-1, 1), 0, api.OK, api.ErrBelow},
		{"a Num of nought that says it is below", over(dy(true, 5, 0, 0)), 0, api.OK, api.OK},
		{"no ratio at all", api.Ratio{}, 0, api.ErrNought, api.ErrNought},
	} {
		x, e := Quot(c.r, c.mode)
		if e != c.want || e != api.OK && !sameBits(x, 0) {
			t.Errorf("Quot, %s: %x, error %d; want %d", c.name, x, e, c.want)
		}
		oneSided(t, c.r, c.mode, c.want, c.wantRoot)
	}
}

// The order of what is refused of two, whichever of them it is: all sorts, each with each.
func TestRefusalsOfTwo(t *testing.T) {
	l := ratios()
	for i, a := range l {
		for j := i % 5; j < len(l); j += 5 {
			b := l[j]
			for _, w := range works() {
				got, e := w.call(a, b)
				want := amiss(a, b)
				if want == api.OK && w.name == "Div" && valueOf(b.Num).m.Sign() == 0 {
					want = api.ErrNought
				}
				if e != want || e != api.OK && !sameRatio(got, api.Ratio{}) {
					t.Errorf("%s of %s and %s: %s, error %d; want %d", w.name, told(a), told(b), told(got), e, want)
				}
			}
			if c, e := Cmp(a, b); e != amiss(a, b) || e != api.OK && c != 0 {
				t.Errorf("Cmp of %s and %s: %d, error %d; want %d", told(a), told(b), c, e, amiss(a, b))
			}
		}
	}
}

// By hand: two faults at once, of the first and of the second.
func TestRefusalsOfTwoByHand(t *testing.T) {
	below, long, nought := by(1, -1), over(two(api.MaxExp+1)), by(1, 0)
	longDen := api.Ratio{Num: in(1), Den: api.Dyad{Mag: ones(limit + 1)}}
	far, none := over(two(api.MaxExp)), by(0, 3)
	for _, c := range []struct {
		name string
		a, b api.Ratio
		want [5]api.Errno // of Add, Sub, Mul, Div, Cmp
	}{
		{"below, long", below, long, [5]api.Errno{1, 1, 1, 1, 1}},
		{"below, nought", below, nought, [5]api.Errno{1, 1, 1, 1, 1}},
		{"below, none", below, none, [5]api.Errno{1, 1, 1, 1, 1}},
		{"long, nought", long, nought, [5]api.Errno{2, 2, 2, 2, 2}},
		{"a long Den, nought", longDen, nought, [5]api.Errno{2, 2, 2, 2, 2}},
		{"long, none", long, none, [5]api.Errno{2, 2, 2, 2, 2}},
		{"nought, far", nought, far, [5]api.Errno{21, 21, 21, 21, 21}},
		{"far, none", far, none, [5]api.Errno{0, 0, 0, 21, 0}},
		{"far, none by what makes a product too long", far, api.Ratio{Num: in(0), Den: two(1)}, [5]api.Errno{2, 2, 0, 21, 0}},
		{"far, far", far, far, [5]api.Errno{2, 0, 2, 0, 0}},
	} {
		twoSided(t, c.name, c.a, c.b, c.want)
		if c.name[:3] != "far" {
			twoSided(t, c.name+", the other way", c.b, c.a, c.want)
		}
	}
}

func twoSided(t *testing.T, name string, a, b api.Ratio, want [5]api.Errno) {
	t.Helper()
	for i, w := range works() {
		if _, e := w.call(a, b); e != want[i] {
			t.Errorf("%s, %s: error %d; want %d", w.name, name, e, want[i])
		}
	}
	if _, e := Cmp(a, b); e != want[4] {
		t.Errorf("Cmp, %s: error %d; want %d", name, e, want[4])
	}
}
