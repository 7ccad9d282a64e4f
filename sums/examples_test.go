package sums

import (
	"math"
	"testing"

	"steelyard/api"
)

// The chapter's examples, line by line.
func TestExampleCancels(t *testing.T) {
	l := []float64{1, 0x1p100, 1, -0x1p100}
	x, e := Exact(l, api.Even, api.Policy{})
	answers(t, "Exact", x, e, 2, api.OK)
	same(t, "Running", Running(l), 0)
	same(t, "Halving", Halving(l), 0)
	same(t, "Kahan", Kahan(l), 0)
	same(t, "Neumaier", Neumaier(l), 2)
}

func TestExampleSmallOnes(t *testing.T) {
	l := []float64{0x1p53, 1, 1}
	same(t, "Running", Running(l), 0x1p53)
	same(t, "Halving", Halving(l), 0x1p53)
	same(t, "Halving, turned", Halving([]float64{1, 1, 0x1p53}), 0x1p53+2)
	x, e := Blocked(l, 2)
	answers(t, "Blocked", x, e, 0x1p53, api.OK)
	same(t, "Kahan", Kahan(l), 0x1p53+2)
	same(t, "Neumaier", Neumaier(l), 0x1p53+2)
}

func TestExampleNoughts(t *testing.T) {
	l := []float64{noughtBelow}
	same(t, "Running(-0)", Running(l), noughtBelow)
	same(t, "Running(-0, -0)", Running([]float64{noughtBelow, noughtBelow}), noughtBelow)
	same(t, "Running()", Running(nil), 0)
	same(t, "Kahan(-0)", Kahan(l), 0)
	same(t, "Neumaier(-0)", Neumaier(l), 0)
	x, e := Exact(l, api.Even, api.Policy{})
	answers(t, "Exact(-0)", x, e, noughtBelow, api.OK)
}

func TestExampleEndless(t *testing.T) {
	same(t, "Running(+Inf, -Inf)", Running([]float64{inf, -inf}), hole)
	same(t, "Running beyond", Running([]float64{greatest, greatest, -greatest}), inf)
}

func TestExamplePolicies(t *testing.T) {
	l := []float64{math.NaN(), 1}
	x, e := Exact(l, api.Even, api.Policy{NaN: api.Carry})
	answers(t, "carried", x, e, hole, api.OK)
	x, e = Exact(l, api.Even, api.Policy{NaN: api.Pass})
	answers(t, "passed over", x, e, 1, api.OK)
	x, e = Exact(l, api.Even, api.Policy{NaN: api.Refuse})
	refuses(t, "refused", x, e, api.ErrNaN)
}

func TestExampleBlocked(t *testing.T) {
	l := []float64{1, 2, 3}
	x, e := Blocked(l, 0)
	refuses(t, "0", x, e, api.ErrArg)
	x, e = Blocked(l, 65537)
	refuses(t, "65537", x, e, api.ErrArg)
	x, e = Blocked(nil, 4)
	answers(t, "none", x, e, 0, api.OK)
}

func TestExampleAlike(t *testing.T) {
	x, e := Alike([]float64{1, inf}, 2)
	refuses(t, "+Inf", x, e, api.ErrOdd)
	x, e = Alike([]float64{1}, 9)
	refuses(t, "9", x, e, api.ErrArg)
}

func TestExampleShort(t *testing.T) {
	l := []float32{0x1p24, 1, 1}
	if x, y := Running32(l), Mixed(l); x != 0x1p24 || y != 0x1p24+2 {
		t.Errorf("Running32 %v, Mixed %v", x, y)
	}
}
