package policy

import (
	"math"
	"testing"

	"steelyard/api"
)

// Example 2.
func TestVerdictExamples(t *testing.T) {
	s := api.Specials{NaN: 1, Up: 2, All: 3}
	judged(t, s, api.Policy{NaN: api.Carry, Inf: api.Carry}, odd, true)
	judged(t, s, api.Policy{NaN: api.Pass, Inf: api.Carry}, inf, true)
	judged(t, s, api.Policy{NaN: api.Pass, Inf: api.Pass}, 0, false)
	judged(t, s, api.Policy{NaN: api.Refuse, Inf: api.Refuse}, 0, false)
	judged(t, api.Specials{Up: 1, Down: 1, All: 2}, api.Policy{NaN: api.Pass, Inf: api.Carry}, odd, true)
	judged(t, api.Specials{Up: 1, All: 0}, Plain(), 0, false)
}

// P6.3: each of the five lines, the first that applies.
func TestVerdictByItsLines(t *testing.T) {
	for _, c := range []struct {
		s  api.Specials
		p  api.Policy
		x  float64
		is bool
	}{
		// 1 ahead of 2, 3, 4
		{api.Specials{NaN: 1, Up: 1, Down: 1, All: 2}, Plain(), 0, false},
		{api.Specials{NaN: 1, Up: 1, Down: 1, All: 3}, api.Policy{NaN: api.Carry, Inf: 3}, 0, false},
		{api.Specials{NaN: 1, Up: 1, Down: 1, All: 3}, api.Policy{NaN: -1, Inf: api.Carry}, 0, false},
		{api.Specials{Up: 1, Minus: -1, All: 3}, Plain(), 0, false},
		// 2, ahead of 3 and 4, and whatever is done with infinities
		{api.Specials{NaN: 1, Up: 1, Down: 1, All: 3}, Plain(), odd, true},
		{api.Specials{NaN: 1, Up: 1, All: 2}, Plain(), odd, true},
		{api.Specials{NaN: 1, Down: 1, All: 2}, Plain(), odd, true},
		{api.Specials{NaN: 1, All: 1}, api.Policy{Inf: api.Pass}, odd, true},
		{api.Specials{NaN: 1, All: 9}, api.Policy{Inf: api.Refuse}, odd, true},
		// 3, whatever is done with NaN, if none is carried
		{api.Specials{Up: 1, Down: 1, All: 2}, Plain(), odd, true},
		{api.Specials{NaN: 1, Up: 1, Down: 1, All: 3}, api.Policy{NaN: api.Pass}, odd, true},
		{api.Specials{NaN: 1, Up: 1, Down: 7, All: 9}, api.Policy{NaN: api.Refuse}, odd, true},
		// 4
		{api.Specials{Up: 1, All: 1}, Plain(), inf, true},
		{api.Specials{Down: 1, All: 1}, Plain(), -inf, true},
		{api.Specials{NaN: 1, Up: 1, All: 2}, api.Policy{NaN: api.Pass}, inf, true},
		{api.Specials{NaN: 1, Down: 1, All: 2}, api.Policy{NaN: api.Refuse}, -inf, true},
		// 5
		{api.Specials{}, Plain(), 0, false},
		{api.Specials{Minus: 2, All: 2}, Plain(), 0, false},
		{api.Specials{Up: 1, Down: 1, All: 2}, api.Policy{Inf: api.Pass}, 0, false},
		{api.Specials{Up: 1, All: 2}, api.Policy{Inf: api.Refuse}, 0, false},
		{api.Specials{Down: 1, All: 2}, api.Policy{Inf: api.Refuse}, 0, false},
		{api.Specials{NaN: 5, All: 5}, api.Policy{NaN: api.Pass}, 0, false},
		{api.Specials{NaN: 5, All: 5}, api.Policy{NaN: api.Refuse}, 0, false},
	} {
		judged(t, c.s, c.p, c.x, c.is)
	}
}

// carried is what Go's own + makes of a finite number and of what the policy carries. Of each sort two stand for all: one more changes nothing.
func carried(s api.Specials, p api.Policy) (float64, bool) {
	sum := 1.0
	add := func(n int, x float64, way int) {
		if way != api.Carry {
			return
		}
		for range min(n, 2) {
			sum += x
		}
	}
	add(s.NaN, odd, p.NaN)
	add(s.Up, inf, p.Inf)
	add(s.Down, -inf, p.Inf)
	switch {
	case math.IsNaN(sum):
		return odd, true
	case math.IsInf(sum, 0):
		return sum, true
	}
	return 0, false
}

// P6.3: Specials of any kind, at the bounds of what may be and beyond them, by every policy.
func TestVerdictOfAnySpecials(t *testing.T) {
	each := func(s api.Specials) {
		may := mayBe(s)
		for _, p := range policies() {
			x, is := 0.0, false
			if may {
				x, is = carried(s, p)
			}
			judged(t, s, p, x, is)
		}
	}
	counted(bounds(), each)
	counted([]int{-1, 0, 1, 2, 5}, each)
}

// P6.3: a policy that may not be, with Specials that may.
func TestVerdictByStrangers(t *testing.T) {
	for _, p := range strangers() {
		counted([]int{0, 1, 5}, func(s api.Specials) { judged(t, s, p, 0, false) })
	}
}

// tells is whether the Specials may be, where one infinity among them is carried.
func tells(t *testing.T, s api.Specials, may bool) {
	t.Helper()
	if mayBe(s) != may {
		t.Fatalf("%+v: what the test wants is not right", s)
	}
	if _, is := Verdict(s, Plain()); is != may {
		t.Errorf("Verdict of %+v: %v", s, is)
	}
}

// Each of the six below 0, at 0, at 2^40 and above it; the five together at All, and one above it.
func TestBoundsOfSpecials(t *testing.T) {
	for _, n := range []int{math.MinInt, -most, -2, -1, most, most + 1, 1 << 62, math.MaxInt} {
		tells(t, api.Specials{NaN: n, Up: 1, All: most}, false)
		tells(t, api.Specials{Up: n, Down: 1, All: most}, false)
		tells(t, api.Specials{Up: 1, Down: n, All: most}, false)
		tells(t, api.Specials{Up: 1, Minus: n, All: most}, false)
		tells(t, api.Specials{Up: 1, Plus: n, All: most}, false)
		tells(t, api.Specials{Up: 1, All: n}, n == most)
	}
	for _, n := range []int{0, 1, most - 2, most - 1} {
		tells(t, api.Specials{NaN: n, Up: 1, All: most}, true)
		tells(t, api.Specials{Up: n, Down: 1, All: most}, true)
		tells(t, api.Specials{Up: 1, Down: n, All: most}, true)
		tells(t, api.Specials{Up: 1, Minus: n, All: most}, true)
		tells(t, api.Specials{Up: 1, Plus: n, All: most}, true)
		tells(t, api.Specials{Up: 1, All: n}, n > 0)
	}
	tells(t, api.Specials{NaN: most, All: most}, true)
	tells(t, api.Specials{Up: most, All: most}, true)
	tells(t, api.Specials{Down: most, All: most}, true)
	tells(t, api.Specials{NaN: 1, Up: 2, Down: 3, Minus: 4, Plus: 5, All: 15}, true)
	tells(t, api.Specials{NaN: 1, Up: 2, Down: 3, Minus: 4, Plus: 5, All: 16}, true)
	tells(t, api.Specials{NaN: 1, Up: 2, Down: 3, Minus: 4, Plus: 5, All: 14}, false)
	tells(t, api.Specials{NaN: most, Up: most, Down: most, Minus: most, Plus: most, All: most}, false)
}

// Sums that pass an int's bounds come round to what would be at most All.
func TestSumsOfSpecialsBeyondBounds(t *testing.T) {
	for _, s := range []api.Specials{
		{NaN: 1 << 62, Up: 1 << 62, Down: 1 << 62, Minus: 1 << 62, All: most},
		{Up: 1, Minus: math.MaxInt, Plus: math.MaxInt, All: most},
		{Up: 1, Minus: math.MinInt, Plus: math.MinInt, All: most},
		{Up: most, Minus: -most, All: most},
		{Up: math.MaxInt, Down: math.MaxInt, Plus: 2, All: math.MaxInt},
		{NaN: math.MinInt, Up: math.MinInt, All: 0},
	} {
		tells(t, s, false)
		for _, mode := range modes() {
			nought(t, s, mode, 0)
		}
	}
}
