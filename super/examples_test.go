package super

import (
	"math"
	"testing"

	"steelyard/api"
)

// all fails unless the calls answer so, one by one.
func all(t *testing.T, what string, got []api.Errno, is ...api.Errno) {
	t.Helper()
	for i := range is {
		want(t, what, got[i], is[i])
	}
}

func exactly(t *testing.T, a *Acc, neg bool, exp int, mag ...uint32) {
	t.Helper()
	if d := a.Exact(); !alike(d, api.Dyad{Neg: neg, Mag: mag, Exp: exp}) {
		t.Errorf("Exact is {%t %x %d}; want {%t %x %d}", d.Neg, d.Mag, d.Exp, neg, mag, exp)
	}
}

// roundsTo fails unless Round answers just these bits.
func roundsTo(t *testing.T, a *Acc, mode int, p api.Policy, is float64) {
	t.Helper()
	x, e := a.Round(mode, p)
	bits := math.Float64bits(is)
	if is != is {
		bits = answered
	}
	if math.Float64bits(x) != bits || e != api.OK {
		t.Errorf("Round by mode %d, %+v: %v, error %d; want %v", mode, p, x, e, is)
	}
}

// The chapter's examples: one accumulator in four lines.
func TestExampleOne(t *testing.T) {
	a, carry := New(), api.Policy{}
	all(t, "Add", []api.Errno{a.Add(0x1p1000), a.Add(1), a.Add(-0x1p1000)}, 0, 0, 0)
	exactly(t, a, false, 0, 1)
	roundsTo(t, a, api.Even, carry, 1)
	all(t, "Take", []api.Errno{a.Take(-0x1p1000), a.Take(0x1p1000)}, 0, 0)
	exactly(t, a, false, 0, 1)
	want(t, "AddProduct", a.AddProduct(0x1p-1074, 0x1p-1074), api.OK)
	// 1 + 2^-2148: 2148 is 67 words and 4 bits.
	mag := make(api.Nat, 68)
	mag[0], mag[67] = 1, 1<<4
	exactly(t, a, false, -2148, mag...)
	roundsTo(t, a, api.Even, carry, 1)
	roundsTo(t, a, api.Up, carry, 1+0x1p-52)
	roundsTo(t, a, api.Down, carry, 1)
}

func TestExampleNoughts(t *testing.T) {
	a, carry := New(), api.Policy{}
	want(t, "Add(-0)", a.Add(noughtBelow), api.OK)
	roundsTo(t, a, api.Even, carry, noughtBelow)
	want(t, "Add(+0)", a.Add(0), api.OK)
	roundsTo(t, a, api.Even, carry, 0)
	roundsTo(t, a, api.Down, carry, noughtBelow)
}

func TestExampleProducts(t *testing.T) {
	a := New()
	a.AddProduct(0, -3)
	if s := a.Specials(); s != (api.Specials{Minus: 1, All: 1}) {
		t.Errorf("0 times -3: %+v", s)
	}
	want(t, "AddProduct(+Inf, 0)", a.AddProduct(inf, 0), api.OK)
	roundsTo(t, a, api.Even, api.Policy{NaN: api.Carry, Inf: api.Carry}, hole)
	roundsTo(t, a, api.Even, api.Policy{NaN: api.Pass, Inf: api.Carry}, noughtBelow)
	if x, e := a.Round(api.Even, api.Policy{NaN: api.Refuse, Inf: api.Carry}); math.Float64bits(x) != 0 || e != api.ErrNaN {
		t.Errorf("refused: %v, error %d", x, e)
	}
}

func TestExampleTake(t *testing.T) {
	a := New()
	all(t, "Take(1), Add(3), Take(1)", []api.Errno{a.Take(1), a.Add(3), a.Take(1)}, api.ErrNone, api.OK, api.OK)
	exactly(t, a, false, 1, 1)
	if s := a.Specials(); s != (api.Specials{}) {
		t.Errorf("Specials are %+v", s)
	}
	want(t, "Take(0)", a.Take(0), api.ErrNone)
}

func TestExampleFull(t *testing.T) {
	a := New()
	a.Add(1)
	for range 40 {
		want(t, "Merge", a.Merge(a), api.OK)
	}
	if s := a.Specials(); s.All != api.MaxCount {
		t.Errorf("All is %d", s.All)
	}
	exactly(t, a, false, 40, 1)
	all(t, "Merge, Add", []api.Errno{a.Merge(a), a.Add(1)}, api.ErrLong, api.ErrLong)
}

func TestExampleBound(t *testing.T) {
	a := New()
	all(t, "Add, TakeProduct", []api.Errno{a.Add(1), a.TakeProduct(0x1p1023, -0x1p1023)}, api.OK, api.OK)
	for range 43 {
		want(t, "Merge", a.Merge(a), api.OK)
	}
	// 2^2089 + 2^43 is 2^43 times (2^2046 + 1): 2046 is 63 words and 30 bits.
	mag := make(api.Nat, 64)
	mag[0], mag[63] = 1, 1<<30
	exactly(t, a, false, 43, mag...)
	want(t, "Merge", a.Merge(a), api.ErrLong)
	exactly(t, a, false, 43, mag...)
	for _, c := range []struct {
		mode int
		p    api.Policy
	}{{5, api.Policy{}}, {0, api.Policy{NaN: 3, Inf: 0}}} {
		if x, e := a.Round(c.mode, c.p); math.Float64bits(x) != 0 || e != api.ErrArg {
			t.Errorf("Round(%d, %+v): %v, error %d", c.mode, c.p, x, e)
		}
	}
}
