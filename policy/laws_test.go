package policy

import (
	"slices"
	"testing"

	"steelyard/api"
)

// open are the policies that refuse nothing.
func open() []api.Policy {
	return slices.DeleteFunc(policies(), func(p api.Policy) bool { return p.NaN == api.Refuse || p.Inf == api.Refuse })
}

func sift(t *testing.T, l []float64, p api.Policy) ([]float64, api.Specials) {
	t.Helper()
	left, s, e := Sift(l, p)
	if e != api.OK {
		t.Fatalf("Sift by %v: error %d", p, e)
	}
	return left, s
}

// What is sifted, the NaN and the infinities are as many as All.
func TestNothingIsLost(t *testing.T) {
	d := dice(67)
	for n := range 200 {
		l := d.list(n)
		for _, p := range open() {
			left, s := sift(t, l, p)
			if len(left)+s.NaN+s.Up+s.Down != s.All || s.All != n || s.Minus+s.Plus > len(left) {
				t.Errorf("%d numbers: %d left, %+v", n, len(left), s)
			}
		}
	}
}

func plus(a, b api.Specials) api.Specials {
	return api.Specials{NaN: a.NaN + b.NaN, Up: a.Up + b.Up, Down: a.Down + b.Down, Minus: a.Minus + b.Minus, Plus: a.Plus + b.Plus, All: a.All + b.All}
}

// A list that is put together of two is sifted to what the two are sifted to, put together, with the sums of their Specials.
func TestListsPutTogether(t *testing.T) {
	d := dice(68)
	for n := range 200 {
		a, b := d.list(n), d.list(d.below(50))
		for _, p := range open() {
			leftA, sA := sift(t, a, p)
			leftB, sB := sift(t, b, p)
			left, s := sift(t, slices.Concat(a, b), p)
			if !alike(left, slices.Concat(leftA, leftB)) || s != plus(sA, sB) {
				t.Errorf("%d numbers and %d: %d left, %+v", n, len(b), len(left), s)
			}
		}
	}
	half := d.list(api.MaxList / 2)
	one, sOne := sift(t, half, Plain())
	both, sBoth := sift(t, slices.Concat(half, half), Plain())
	if !alike(both, slices.Concat(one, one)) || sBoth != plus(sOne, sOne) {
		t.Errorf("two halves: %d left, %+v", len(both), sBoth)
	}
}

// Of noughts alone Nought is what Go's own + makes of them, one behind the other, by the mode Even.
func TestNoughtsAlone(t *testing.T) {
	for n := 1; n <= 12; n++ {
		for signs := range 1 << n {
			l := make([]float64, n)
			for i := range l {
				l[i] = []float64{0, minus}[signs>>i&1]
			}
			sum := l[0]
			for _, x := range l[1:] {
				sum += x
			}
			_, s := sift(t, l, Plain())
			nought(t, s, api.Even, sum)
		}
	}
}

// What Sift counts and Verdict makes of it is what Go's own + makes of the list, where nothing is passed over or refused and the finite ones don't reach an infinity.
func TestVerdictOfWhatIsSifted(t *testing.T) {
	d := dice(69)
	for n := range 400 {
		l := d.list(n % 9)
		sum := 0.0
		for _, x := range l {
			// Made less, so few together do not pass the greatest number.
			sum += x / 16
		}
		_, s := sift(t, l, Plain())
		if x, is := Verdict(s, Plain()); is != (sum-sum != 0) || is && x != sum && (x == x || sum == sum) {
			t.Errorf("%v: %v, %v", l, x, is)
		}
	}
}
