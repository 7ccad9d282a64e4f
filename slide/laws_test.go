package slide

import (
	"slices"
	"testing"

	"steelyard/api"
)

// alike fails unless two Slides tell the same, whatever is asked.
func alike(t *testing.T, what string, a, b *Slide) {
	t.Helper()
	pair := func(name string, x, y told) {
		t.Helper()
		if x != y {
			t.Errorf("%s: %s %x, and %x", what, name, x, y)
		}
	}
	if a.Len() != b.Len() {
		t.Errorf("%s: Len %d, and %d", what, a.Len(), b.Len())
	}
	pair("Least", tell(a.Least()), tell(b.Least()))
	pair("Most", tell(a.Most()), tell(b.Most()))
	for mode := -1; mode <= 5; mode++ {
		for _, p := range append(policies(), api.Policy{NaN: 3}) {
			pair("Sum", tell(a.Sum(mode, p)), tell(b.Sum(mode, p)))
			pair("Mean", tell(a.Mean(mode, p)), tell(b.Mean(mode, p)))
			for less := -1; less <= 2; less++ {
				pair("Var", tell(a.Var(less, mode, p)), tell(b.Var(less, mode, p)))
			}
		}
	}
}

// P20.5: behind as many Pushes as its size a Slide is one to which these alone were pushed, whatever came before: now, and from then on.
func TestWhatWentBeforeIsNotSeen(t *testing.T) {
	d := dice(208)
	for _, before := range kinds() {
		for _, size := range []int{1, 2, 3, 6} {
			behind := kinds()[d.below(len(kinds()))]
			last := d.list(size, behind)
			old := pushed(size, append(d.list(1+d.below(3*size+3), before), last...)...)
			young := pushed(size, last...)
			alike(t, "the last ones alone", old, young)
			for _, x := range d.list(size+1, before) {
				old.Push(x)
				young.Push(x)
				alike(t, "and from then on", old, young)
			}
		}
	}
}

// P20.5: likewise of great windows, behind the ends of all numbers.
func TestGreatWindowsForget(t *testing.T) {
	d := dice(209)
	for _, size := range []int{100, widest} {
		last := d.list(size, func(d *dice) float64 { return d.sized(-3, 3) })
		before := slices.Concat(ends(), odds(), often(size, greatest), often(size, -inf))
		alike(t, "a great window", pushed(size, append(before, last...)...), pushed(size, last...))
	}
}

// P20.5: of a list that is not full the size is not seen.
func TestSizeIsNotSeen(t *testing.T) {
	d := dice(210)
	for _, kind := range kinds() {
		l := d.list(1+d.below(6), kind)
		a := pushed(len(l), l...)
		for _, size := range []int{len(l) + 1, len(l) + 7, widest} {
			alike(t, "another size", a, pushed(size, l...))
		}
	}
}

// P20.5, P0.1: the order of the list is not seen by any of the numbers that are told.
func TestOrderIsNotSeen(t *testing.T) {
	d := dice(211)
	for _, kind := range kinds() {
		for n := 2; n <= 6; n++ {
			l := d.list(n, kind)
			back := slices.Clone(l)
			slices.Reverse(back)
			alike(t, "turned round", pushed(n, append(nums(1e300, inf), l...)...), pushed(n, back...))
			i := d.below(n)
			alike(t, "turned on", pushed(n, l...), pushed(n, slices.Concat(l[i:], l[:i])...))
		}
	}
}

// P20.5: a row that comes round again and again tells the same at each turn.
func TestRoundAndRound(t *testing.T) {
	d := dice(212)
	for _, kind := range kinds() {
		row := d.list(5, kind)
		s, first := New(3), []*Slide{}
		for i := range row {
			first = append(first, pushed(3, row[(i+3)%5], row[(i+4)%5], row[i]))
		}
		for turn := range 4 {
			for i, x := range row {
				s.Push(x)
				if turn > 0 {
					alike(t, "round again", s, first[i])
				}
			}
		}
	}
}

// R6: asking changes nothing, and the same asks answer the same.
func TestAskingChangesNothing(t *testing.T) {
	d := dice(213)
	for _, kind := range kinds() {
		l := d.list(20, kind)
		asked, quiet := New(4), New(4)
		for _, x := range l {
			asked.Push(x)
			quiet.Push(x)
			alike(t, "asked twice", asked, asked)
		}
		alike(t, "never asked before", asked, quiet)
	}
}
