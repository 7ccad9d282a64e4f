package dyad

import (
	"math/big"
	"testing"

	"steelyard/api"
)

// added is what P3.3 says, by exact values.
func added(a, b api.Dyad) (api.Dyad, api.Errno) {
	x, e := formed(valueOf(a))
	y, e2 := formed(valueOf(b))
	switch {
	case e != api.OK || e2 != api.OK:
		return api.Dyad{}, api.ErrLong
	case len(x.Mag) == 0:
		return y, api.OK
	case len(y.Mag) == 0:
		return x, api.OK
	}
	exp := big.NewInt(int64(min(x.Exp, y.Exp)))
	m, n := level(valueOf(x), exp), level(valueOf(y), exp)
	if m.BitLen() > limit || n.BitLen() > limit {
		return api.Dyad{}, api.ErrLong
	}
	return formed(value{m.Add(m, n), exp})
}

// times is what P3.4 says, by exact values.
func times(a, b api.Dyad) (api.Dyad, api.Errno) {
	v, w := valueOf(a), valueOf(b)
	_, e := formed(v)
	_, e2 := formed(w)
	if e != api.OK || e2 != api.OK {
		return api.Dyad{}, api.ErrLong
	}
	return formed(value{v.m.Mul(v.m, w.m), v.exp.Add(v.exp, w.exp)})
}

// works holds all three calls against exact values.
func works(t *testing.T, a, b api.Dyad) {
	t.Helper()
	names := " of " + brief(a) + " and " + brief(b)
	got, e := Add(a, b)
	want, wantE := added(a, b)
	answers(t, "Add"+names, got, e, want, wantE)
	got, e = Sub(a, b)
	want, wantE = added(a, less(b))
	answers(t, "Sub"+names, got, e, want, wantE)
	got, e = Mul(a, b)
	want, wantE = times(a, b)
	answers(t, "Mul"+names, got, e, want, wantE)
}

// P3.3, P3.4: small ones, each with each and with itself, and others.
func TestSmallOnes(t *testing.T) {
	for _, a := range some() {
		for _, b := range some() {
			works(t, a, b)
		}
	}
	d := dice(33)
	for range 4000 {
		works(t, d.dyad(6, 150), d.dyad(6, 150))
	}
}

// P3.3, P3.4: great ones, and those that may not be, each with a few, on either side.
func TestGreatOnes(t *testing.T) {
	few := []api.Dyad{{}, {Neg: true, Exp: 9}, two(0), dy(true, 0, 2), dy(false, -3, full), two(api.MaxExp), two(-api.MaxExp), two(api.MaxExp + 1), {Mag: ones(limit)}}
	for _, a := range append(great(), past()...) {
		works(t, a, a)
		works(t, a, less(a))
		for _, b := range few {
			works(t, a, b)
			works(t, b, a)
		}
	}
}

// P3.3: the chapter's third example, and the bounds of what is added.
func TestAddExamples(t *testing.T) {
	top := api.Dyad{Mag: ones(limit)}
	for _, c := range []struct {
		name string
		a, b api.Dyad
		want api.Dyad
		e    api.Errno
	}{
		{"3/4 and 4", dy(false, -2, 3), two(2), dy(false, -2, 19), api.OK},
		{"2^300000 and 1", two(300000), two(0), api.Dyad{}, api.ErrLong},
		{"1 and 2^300000", two(0), two(300000), api.Dyad{}, api.ErrLong},
		{"2^300000 and -2^300000", two(300000), less(two(300000)), api.Dyad{}, api.OK},
		{"2^262144 and -(2^262144 - 1), though the sum is 1", two(262144), less(top), api.Dyad{}, api.ErrLong},
		{"-(2^262144 - 1) and 2^262144", less(top), two(262144), api.Dyad{}, api.ErrLong},
		{"2^262143 and -(2^262143 - 1)", two(limit - 1), less(api.Dyad{Mag: ones(limit - 1)}), two(0), api.OK},
		{"2^262143 and 1", two(limit - 1), two(0), api.Dyad{Mag: append(api.Nat{1}, power(limit-33)...)}, api.OK},
		{"2^262144 and 1", two(limit), two(0), api.Dyad{}, api.ErrLong},
		{"a sum of a bit too many, whose form is not", top, two(0), two(limit), api.OK},
		{"twice the longest", top, top, api.Dyad{Mag: ones(limit), Exp: 1}, api.OK},
		{"twice the longest, below nought", less(top), less(top), api.Dyad{Neg: true, Mag: ones(limit), Exp: 1}, api.OK},
		{"a sum of a bit too many, whose form is too", top, two(1), api.Dyad{}, api.ErrLong},
		{"past MaxExp", two(api.MaxExp), two(api.MaxExp), api.Dyad{}, api.ErrLong},
		{"back to MaxExp", two(api.MaxExp - 1), two(api.MaxExp - 1), two(api.MaxExp), api.OK},
		{"twice the least", two(-api.MaxExp), two(-api.MaxExp), two(1 - api.MaxExp), api.OK},
		{"nought and what may not be", api.Dyad{}, two(api.MaxExp + 1), api.Dyad{}, api.ErrLong},
		{"what may not be and nought", two(api.MaxExp + 1), api.Dyad{}, api.Dyad{}, api.ErrLong},
		{"what is no form and nought", dy(true, 0, 6, 0), dy(true, 5, 0), dy(true, 1, 3), api.OK},
		{"nought and what is no form", dy(true, 5, 0), dy(true, 0, 6, 0), dy(true, 1, 3), api.OK},
	} {
		got, e := Add(c.a, c.b)
		answers(t, "Add of "+c.name, got, e, c.want, c.e)
	}
}

// P3.3: as Add of a and of b with the other sign.
func TestSubExamples(t *testing.T) {
	for _, c := range []struct {
		name string
		a, b api.Dyad
		want api.Dyad
		e    api.Errno
	}{
		{"1 less 3", two(0), dy(false, 0, 3), dy(true, 1, 1), api.OK},
		{"one less itself", dy(true, 7, 5), dy(true, 7, 5), api.Dyad{}, api.OK},
		{"nought less one", dy(true, 3, 0), dy(false, 0, 12), dy(true, 2, 3), api.OK},
		{"one less nought", dy(false, 0, 12), dy(true, 3, 0), dy(false, 2, 3), api.OK},
		{"nought less nought", dy(true, 3), dy(false, -3, 0), api.Dyad{}, api.OK},
		{"2^262144 less 2^262144 - 1", two(limit), api.Dyad{Mag: ones(limit)}, api.Dyad{}, api.ErrLong},
		{"less what may not be", two(0), two(-api.MaxExp - 1), api.Dyad{}, api.ErrLong},
		{"what may not be less itself", two(api.MaxExp + 1), two(api.MaxExp + 1), api.Dyad{}, api.ErrLong},
	} {
		got, e := Sub(c.a, c.b)
		answers(t, "Sub of "+c.name, got, e, c.want, c.e)
	}
}

// P3.4: the limits on either side.
func TestMulExamples(t *testing.T) {
	for _, c := range []struct {
		name string
		a, b api.Dyad
		want api.Dyad
		e    api.Errno
	}{
		{"2^600000 with itself", two(600000), two(600000), api.Dyad{}, api.ErrLong},
		{"2^-600000 with itself", two(-600000), two(-600000), api.Dyad{}, api.ErrLong},
		{"up to MaxExp", two(524288), less(two(524288)), less(two(api.MaxExp)), api.OK},
		{"past MaxExp", two(524288), two(524289), api.Dyad{}, api.ErrLong},
		{"down to -MaxExp", less(two(-524288)), less(two(-524288)), two(-api.MaxExp), api.OK},
		{"past -MaxExp", two(-524288), two(-524289), api.Dyad{}, api.ErrLong},
		{"nought and one", dy(true, 4), dy(true, 4, 5), api.Dyad{}, api.OK},
		{"one and nought", dy(false, api.MaxExp, 5), dy(true, 4, 0, 0), api.Dyad{}, api.OK},
		{"nought and what may not be", api.Dyad{}, two(api.MaxExp + 1), api.Dyad{}, api.ErrLong},
		{"what may not be and nought", two(-api.MaxExp - 1), api.Dyad{}, api.Dyad{}, api.ErrLong},
		{"two that may not be, though the product might", two(api.MaxExp + 1), two(-api.MaxExp - 1), api.Dyad{}, api.ErrLong},
		{"no forms", dy(true, -1, 6, 0), dy(false, -1, 0, 10), dy(true, 32, 15), api.OK},
		{"MaxWords words", api.Dyad{Mag: ones(limit)}, less(two(3)), api.Dyad{Neg: true, Mag: ones(limit), Exp: 3}, api.OK},
		{"more than MaxWords words", api.Dyad{Mag: ones(limit)}, dy(false, 0, 3), api.Dyad{}, api.ErrLong},
	} {
		got, e := Mul(c.a, c.b)
		answers(t, "Mul of "+c.name, got, e, c.want, c.e)
	}
	// Half the words each: just so many, and one more.
	works(t, api.Dyad{Mag: ones(limit / 2)}, api.Dyad{Neg: true, Mag: ones(limit / 2), Exp: 4})
	works(t, api.Dyad{Mag: ones(limit/2 + 1)}, api.Dyad{Mag: ones(limit / 2)})
	if _, e := Mul(api.Dyad{Mag: ones(limit / 2)}, api.Dyad{Mag: ones(limit / 2)}); e != api.OK {
		t.Errorf("half the words each: error %d", e)
	}
	if _, e := Mul(api.Dyad{Mag: ones(limit/2 + 1)}, api.Dyad{Mag: ones(limit / 2)}); e != api.ErrLong {
		t.Errorf("a bit more than half the words: error %d", e)
	}
}
