package dyad

import (
	"math"
	"math/big"
	"testing"

	"steelyard/api"
)

// stands is how the value of a stands to that of b, worked out by exact values however far apart.
func stands(a, b value) int {
	if a.m.Sign() != b.m.Sign() || a.m.Sign() == 0 {
		return a.m.Cmp(b.m)
	}
	topA := new(big.Int).Add(a.exp, big.NewInt(int64(a.m.BitLen())))
	topB := new(big.Int).Add(b.exp, big.NewInt(int64(b.m.BitLen())))
	if c := topA.Cmp(topB); c != 0 {
		return c * a.m.Sign()
	}
	exp := a.exp
	if exp.Cmp(b.exp) > 0 {
		exp = b.exp
	}
	return level(a, exp).Cmp(level(b, exp))
}

func held(t *testing.T, a, b api.Dyad) {
	t.Helper()
	if got, want := Cmp(a, b), stands(valueOf(a), valueOf(b)); got != want {
		t.Errorf("Cmp of %s and %s: %d, want %d", brief(a), brief(b), got, want)
	}
}

// P3.5: values alone, of forms that may be and of those that may not, of none at all, each with each.
func TestCmp(t *testing.T) {
	l := append(append(some(), great()...), past()...)
	for _, a := range l {
		for _, b := range l {
			held(t, a, b)
		}
	}
	d := dice(35)
	for range 4000 {
		a := d.dyad(5, 100)
		held(t, a, d.dyad(5, 100))
		// The same value in other words, and its neighbours.
		b := api.Dyad{Neg: a.Neg, Mag: append(shifted(a.Mag, uint(d.below(99))), 0), Exp: a.Exp}
		b.Exp -= len(b.Mag)
		held(t, a, b)
		c := api.Dyad{Neg: a.Neg, Mag: shifted(a.Mag, 70), Exp: a.Exp - 70}
		held(t, a, c)
		if len(c.Mag) > 0 {
			c.Mag[d.below(3)] ^= 1 << d.below(32)
			held(t, a, c)
			held(t, c, a)
		}
	}
}

// P3.5: the chapter's fourth example, and Exps at both ends of int.
func TestCmpExamples(t *testing.T) {
	for _, c := range []struct {
		a, b api.Dyad
		want int
	}{
		{two(math.MaxInt), dy(false, math.MaxInt-1, 2), 0},
		{two(math.MaxInt), dy(false, math.MaxInt-1, 3), -1},
		{two(math.MaxInt), dy(false, math.MaxInt-1, 1), 1},
		{dy(false, math.MaxInt, 2), two(math.MaxInt), 1},
		{dy(false, math.MaxInt, 0, 1), dy(false, math.MaxInt, full), 1},
		{two(math.MaxInt), two(math.MinInt), 1},
		{two(math.MinInt), two(math.MaxInt), -1},
		{less(two(math.MaxInt)), two(math.MinInt), -1},
		{less(two(math.MaxInt)), less(two(math.MinInt)), -1},
		{less(two(math.MinInt)), less(two(math.MaxInt)), 1},
		{two(math.MinInt), api.Dyad{}, 1},
		{less(two(math.MinInt)), api.Dyad{Neg: true, Exp: math.MaxInt}, -1},
		{dy(true, math.MaxInt, 0, 0), dy(false, math.MinInt), 0},
		{dy(false, math.MinInt, 4), two(math.MinInt + 2), 0},
		{dy(true, math.MinInt, 4), less(two(math.MinInt + 3)), 1},
		{two(math.MinInt), two(-1), -1},
		{two(math.MinInt), two(0), -1},
		{two(0), two(math.MinInt), 1},
		{dy(false, -3, 8), two(0), 0},
		{dy(false, -3, 9), two(0), 1},
		{dy(false, -3, 7), two(0), -1},
		{two(0), dy(false, -1, 2, 0), 0},
		{api.Dyad{Mag: power(limit + 100)}, two(limit + 100), 0},
		{api.Dyad{Mag: ones(limit + 100)}, two(limit + 100), -1},
		{two(limit + 100), api.Dyad{Mag: ones(limit + 100)}, 1},
		{api.Dyad{Mag: ones(limit + 100)}, api.Dyad{Mag: shifted(ones(limit+99), 1)}, 1},
		{api.Dyad{Mag: ones(limit + 99), Exp: 1}, api.Dyad{Mag: ones(limit + 100)}, -1},
	} {
		if got := Cmp(c.a, c.b); got != c.want {
			t.Errorf("Cmp of %s and %s: %d, want %d", brief(c.a), brief(c.b), got, c.want)
		}
	}
}

// P3.5: how a value stands to nought, whatever is written beside no word, and where its form may not be.
func TestSign(t *testing.T) {
	for _, a := range append(append(some(), great()...), past()...) {
		if got, want := Sign(a), valueOf(a).m.Sign(); got != want {
			t.Errorf("Sign of %s: %d, want %d", brief(a), got, want)
		}
	}
	for _, c := range []struct {
		a    api.Dyad
		want int
	}{
		{two(math.MaxInt), 1}, {less(two(math.MinInt)), -1}, {api.Dyad{Neg: true, Exp: math.MinInt}, 0}, {dy(true, 1, 0, 0), 0}, {dy(true, 1, 0, 0, 1, 0), -1},
	} {
		if got := Sign(c.a); got != c.want {
			t.Errorf("Sign of %s: %d, want %d", brief(c.a), got, c.want)
		}
	}
}
