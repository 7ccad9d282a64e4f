package policy

import (
	"testing"

	"steelyard/api"
)

// Example 3.
func TestNoughtExamples(t *testing.T) {
	nought(t, api.Specials{All: 2, Minus: 2}, api.Even, minus)
	nought(t, api.Specials{Minus: 1, Plus: 1, All: 2}, api.Even, 0)
	nought(t, api.Specials{Minus: 1, Plus: 1, All: 2}, api.Down, minus)
	nought(t, api.Specials{All: 2}, api.Down, minus)
	nought(t, api.Specials{All: 2}, api.Up, 0)
	nought(t, api.Specials{NaN: 2, All: 2}, api.Down, 0)
	nought(t, api.Specials{All: 2, Plus: 2}, api.Down, 0)
}

// P6.4: each line of the table, by every mode, and by modes that are none.
func TestNoughtByItsLines(t *testing.T) {
	const never, always, down = 0, 1, 2 // when it is -0
	for _, c := range []struct {
		s    api.Specials
		when int
	}{
		{api.Specials{}, never},
		{api.Specials{NaN: 1, Up: 2, Down: 3, All: 6}, never},
		{api.Specials{NaN: most, All: most}, never},
		{api.Specials{Minus: 1, All: 1}, always},
		{api.Specials{Minus: most, All: most}, always},
		{api.Specials{NaN: 1, Up: 1, Down: 1, Minus: 4, All: 7}, always},
		{api.Specials{Plus: 1, All: 1}, never},
		{api.Specials{Plus: most, All: most}, never},
		{api.Specials{NaN: 1, Up: 1, Down: 1, Plus: 4, All: 7}, never},
		{api.Specials{Minus: 1, Plus: 1, All: 2}, down},
		{api.Specials{Minus: most - 1, Plus: 1, All: most}, down},
		{api.Specials{NaN: 1, Up: 1, Down: 1, Minus: 1, Plus: 1, All: 5}, down},
		{api.Specials{Minus: 4, All: 6}, down},
		{api.Specials{Plus: 4, All: 6}, down},
		{api.Specials{All: 1}, down},
		{api.Specials{All: most}, down},
		{api.Specials{NaN: 1, Minus: 1, Plus: 1, All: 7}, down},
		{api.Specials{Minus: 2, All: 1}, never},
		{api.Specials{NaN: -1, Minus: 2, All: 1}, never},
		{api.Specials{Minus: most + 1, All: most + 1}, never},
		{api.Specials{All: -1}, never},
		{api.Specials{All: most + 1}, never},
	} {
		for _, mode := range modes() {
			want := 0.0
			if c.when == always || c.when == down && mode == 3 {
				want = minus
			}
			nought(t, c.s, mode, want)
		}
	}
}

// signed is the sign of a sum that comes to nought, its numbers added one by one by IEEE's words: what cancels is -0 by Down and +0 else, two noughts alike keep their sign.
func signed(l []float64, mode int) float64 {
	if len(l) == 0 {
		return 0
	}
	sum := l[0]
	for _, x := range l[1:] {
		switch {
		case hex(sum) == hex(-x) && mode == api.Down:
			sum = minus
		case hex(sum) == hex(-x):
			sum = 0
		case hex(sum) != hex(x) || x != 0:
			sum += x
		}
	}
	return sum
}

// P6.4 is what IEEE says of the sum, in whatever order it is added up.
func TestNoughtIsTheSumsOwn(t *testing.T) {
	d := dice(66)
	for range 20000 {
		l := d.cancelling()
		_, s := told(l)
		// What no sum can be made of is counted, and nothing more.
		s.NaN, s.Up, s.Down = d.below(2), d.below(3), d.below(2)
		s.All += s.NaN + s.Up + s.Down
		for _, mode := range modes() {
			nought(t, s, mode, signed(l, mode))
		}
	}
}

// cancelling is a list that comes to nought: noughts, or such and numbers with those that undo them, in some order.
func (d *dice) cancelling() []float64 {
	var l []float64
	kinds := [][]float64{{minus}, {0}, {minus, 0}, {1, 0.5, 3}, {minus, 1}, {0, 2}, {minus, 0, 3}}[d.below(7)]
	for range d.below(6) {
		x := kinds[d.below(len(kinds))]
		l = append(l, x)
		if x != 0 {
			l = append(l, -x)
		}
	}
	for i := range l {
		j := d.below(i + 1)
		l[i], l[j] = l[j], l[i]
	}
	return l
}

// P6.4: Specials at the bounds of what may be and beyond them, by every mode.
func TestNoughtOfAnySpecials(t *testing.T) {
	each := func(s api.Specials) {
		may := mayBe(s)
		for _, mode := range modes() {
			want := 0.0
			// With counts that may be nothing passes an int's bounds.
			f := s.All - s.NaN - s.Up - s.Down
			if may && f > 0 && (s.Minus == f || s.Plus != f && mode == api.Down) {
				want = minus
			}
			nought(t, s, mode, want)
		}
	}
	counted(bounds(), each)
	counted([]int{-1, 0, 1, 2, 3}, each)
}
