package dyad

import (
	"math"
	"math/big"
	"strconv"
	"testing"

	"steelyard/api"
)

// floats are every exponent with a few fractions each, of both signs, noughts and small ones among them.
func floats() []float64 {
	var l []float64
	d := dice(31)
	for e := range uint64(2047) {
		for _, f := range []uint64{0, 1, 1<<52 - 1, 1 << 51, d.roll() >> 1, d.roll() >> 1} {
			b := e<<52 | f&(1<<52-1)
			l = append(l, math.Float64frombits(b), math.Float64frombits(b|1<<63))
		}
	}
	return l
}

// P3.1: the form of just x: the bits as chapter 1's words give them, as a whole number of steps of 2^-1074.
func TestOf(t *testing.T) {
	for _, x := range floats() {
		b := math.Float64bits(x)
		e, f := uint(b>>52&2047), b&(1<<52-1)
		if e > 0 {
			f, e = f|1<<52, e-1
		}
		m := new(big.Int).SetUint64(f)
		m.Lsh(m, e)
		if math.Signbit(x) {
			m.Neg(m)
		}
		want, _ := formed(value{m, big.NewInt(-1074)})
		got, err := Of(x)
		answers(t, "Of("+strconv.FormatFloat(x, 'x', -1, 64)+")", got, err, want, api.OK)
	}
}

// P3.1, the chapter's first example; both noughts are the zero one; of NaN, quiet or not, and infinities there is none.
func TestOfExamples(t *testing.T) {
	for _, c := range []struct {
		bits uint64
		want api.Dyad
		e    api.Errno
	}{
		{math.Float64bits(0.75), dy(false, -2, 3), api.OK},
		{math.Float64bits(-6), dy(true, 1, 3), api.OK},
		{math.Float64bits(0x1p-1074), two(-1074), api.OK},
		{math.Float64bits(-0x1p-1074), less(two(-1074)), api.OK},
		{math.Float64bits(0x1p-1022), two(-1022), api.OK},
		{math.Float64bits(math.MaxFloat64), dy(false, 971, full, 1<<21-1), api.OK},
		{math.Float64bits(1), two(0), api.OK},
		{0, api.Dyad{}, api.OK},
		{1 << 63, api.Dyad{}, api.OK},
		{0x7FF0000000000000, api.Dyad{}, api.ErrOdd},
		{0xFFF0000000000000, api.Dyad{}, api.ErrOdd},
		{0x7FF8000000000000, api.Dyad{}, api.ErrOdd},
		{0xFFF8000000000000, api.Dyad{}, api.ErrOdd},
		{0x7FF0000000000001, api.Dyad{}, api.ErrOdd},
		{0xFFFFFFFFFFFFFFFF, api.Dyad{}, api.ErrOdd},
	} {
		got, e := Of(math.Float64frombits(c.bits))
		answers(t, "Of "+strconv.FormatUint(c.bits, 16), got, e, c.want, c.e)
	}
}

// P3.2: the chapter's second example, the limits on either side, and what they are asked of: the form.
func TestMakeExamples(t *testing.T) {
	for _, c := range []struct {
		neg  bool
		mag  api.Nat
		exp  int
		want api.Dyad
		e    api.Errno
	}{
		{true, api.Nat{0, 8, 0}, -35, dy(true, 0, 1), api.OK},
		{false, api.Nat{1}, 1048577, api.Dyad{}, api.ErrLong},
		{false, api.Nat{2}, 1048576, api.Dyad{}, api.ErrLong},
		{false, api.Nat{4}, -1048578, two(-1048576), api.OK},
		{false, api.Nat{1}, 1048576, two(1048576), api.OK},
		{true, api.Nat{1}, -1048576, dy(true, -1048576, 1), api.OK},
		{false, api.Nat{1}, -1048577, api.Dyad{}, api.ErrLong},
		{true, api.Nat{2}, -1048578, api.Dyad{}, api.ErrLong},
		{false, api.Nat{2}, 1048575, two(1048576), api.OK},
		{false, append(make(api.Nat, 40000), 1), -1280000 - 1048576, two(-1048576), api.OK},
		{false, append(make(api.Nat, 40000), 1), -1280000 - 1048577, api.Dyad{}, api.ErrLong},
		{false, append(make(api.Nat, 40000), 6), -1280000 + 1048575, dy(false, 1048576, 3), api.OK},
		{false, append(make(api.Nat, 40000), 6), -1280000 + 1048576, api.Dyad{}, api.ErrLong},
		{false, ones(limit), 0, api.Dyad{Mag: ones(limit)}, api.OK},
		{false, append(ones(limit), 0, 0, 0), 1, api.Dyad{Mag: ones(limit), Exp: 1}, api.OK},
		{false, ones(limit + 1), 0, api.Dyad{}, api.ErrLong},
		{true, shifted(ones(limit), 31), 0, api.Dyad{Neg: true, Mag: ones(limit), Exp: 31}, api.OK},
		{true, shifted(ones(limit), 1), -1, api.Dyad{Neg: true, Mag: ones(limit)}, api.OK},
		{true, shifted(ones(limit+1), 31), 0, api.Dyad{}, api.ErrLong},
		{false, shifted(ones(limit), 64), 0, api.Dyad{Mag: ones(limit), Exp: 64}, api.OK},
		{false, shifted(ones(limit-31), 95), 0, api.Dyad{Mag: ones(limit - 31), Exp: 95}, api.OK},
		{false, api.Nat{1}, math.MaxInt, api.Dyad{}, api.ErrLong},
		{false, api.Nat{1 << 31}, math.MaxInt, api.Dyad{}, api.ErrLong},
		{true, api.Nat{1}, math.MinInt, api.Dyad{}, api.ErrLong},
		{true, api.Nat{0, 0, 0, 4}, math.MinInt, api.Dyad{}, api.ErrLong},
		{true, nil, math.MinInt, api.Dyad{}, api.OK},
		{true, api.Nat{}, math.MaxInt, api.Dyad{}, api.OK},
		{true, make(api.Nat, 9000), 1048577, api.Dyad{}, api.OK},
		{false, api.Nat{0}, 5, api.Dyad{}, api.OK},
	} {
		got, e := Make(c.neg, c.mag, c.exp)
		answers(t, "Make of "+brief(api.Dyad{Neg: c.neg, Mag: c.mag, Exp: c.exp}), got, e, c.want, c.e)
	}
}

// P3.2: all that there is, held against exact values.
func TestMake(t *testing.T) {
	l := append(append(some(), great()...), past()...)
	d := dice(32)
	for range 3000 {
		l = append(l, d.dyad(7, 200))
	}
	for _, a := range l {
		want, wantE := formed(valueOf(a))
		got, e := Make(a.Neg, a.Mag, a.Exp)
		answers(t, "Make of "+brief(a), got, e, want, wantE)
	}
}

// The lists of the other tests are what they say they are.
func TestLists(t *testing.T) {
	for _, a := range append(some(), great()...) {
		if _, e := formed(valueOf(a)); e != api.OK {
			t.Errorf("%s may not be", brief(a))
		}
	}
	for _, a := range past() {
		if _, e := formed(valueOf(a)); e != api.ErrLong {
			t.Errorf("%s may be", brief(a))
		}
	}
}

// P3.2: any int, both ends too.
func TestInt(t *testing.T) {
	for _, n := range []int{0, 1, -1, 2, -2, 3, 6, -6, 1 << 31, 1 << 32, 1<<32 + 1, -(1 << 32), 1<<53 + 1, math.MaxInt, math.MaxInt - 1, math.MinInt, math.MinInt + 1, math.MinInt + 2} {
		want, _ := formed(value{big.NewInt(int64(n)), new(big.Int)})
		answers(t, "Int("+strconv.Itoa(n)+")", Int(n), api.OK, want, api.OK)
	}
	answers(t, "the least int", Int(math.MinInt), api.OK, dy(true, 63, 1), api.OK)
	answers(t, "the greatest int", Int(math.MaxInt), api.OK, dy(false, 0, full, 1<<31-1), api.OK)
}

// P3.5: the other sign; of nought, and of what may not be, the zero one.
func TestNeg(t *testing.T) {
	for _, a := range append(append(some(), great()...), past()...) {
		v := valueOf(a)
		want, _ := formed(value{v.m.Neg(v.m), v.exp})
		answers(t, "Neg of "+brief(a), Neg(a), api.OK, want, api.OK)
	}
	answers(t, "Neg of example 4", Neg(dy(false, math.MaxInt-1, 2)), api.OK, api.Dyad{}, api.OK)
	answers(t, "Neg of 6", Neg(dy(false, 0, 6)), api.OK, dy(true, 1, 3), api.OK)
	answers(t, "Neg of -6", Neg(dy(true, 0, 6)), api.OK, dy(false, 1, 3), api.OK)
}
