package quant

import (
	"testing"

	"steelyard/api"
)

func sample() []float64 { return nums(10, 40, 20, 30) }

// byRules holds a share's answers against one for each rule.
func byRules(t *testing.T, name string, l []float64, num, den, mode int, is [5]float64) {
	t.Helper()
	for rule, want := range is {
		x, e := Quantile(l, num, den, rule, mode)
		answers(t, name+", "+[5]string{"AtLow", "AtHigh", "AtNear", "AtMid", "AtLine"}[rule], x, e, want, api.OK)
	}
}

func TestExampleQuantile(t *testing.T) {
	for mode := range 5 {
		byRules(t, "0 by 1", sample(), 0, 1, mode, everyMode(10))
		byRules(t, "1 by 1", sample(), 1, 1, mode, everyMode(40))
		byRules(t, "1 by 3", sample(), 1, 3, mode, everyMode(20))
		byRules(t, "2 by 6", sample(), 2, 6, mode, everyMode(20))
		byRules(t, "1 by 2", sample(), 1, 2, mode, [5]float64{20, 30, 30, 25, 25})
		byRules(t, "1 by 4", sample(), 1, 4, mode, [5]float64{10, 20, 20, 15, 17.5})
		byRules(t, "1 by 6", sample(), 1, 6, mode, [5]float64{10, 20, 10, 15, 15})
		byRules(t, "1 by 8", sample(), 1, 8, mode, [5]float64{10, 20, 10, 15, 13.75})
	}
}

func TestExampleRounded(t *testing.T) {
	for _, c := range []struct {
		name       string
		l          []float64
		num, den   int
		rule, mode int
		is         float64
	}{
		{"a third, Even", nums(0, 1), 1, 3, api.AtLine, api.Even, 0x1.5555555555555p-2},
		{"a third, Up", nums(0, 1), 1, 3, api.AtLine, api.Up, 0x1.5555555555556p-2},
		{"-0, +0, AtLow", nums(noughtBelow, 0), 1, 2, api.AtLow, api.Down, noughtBelow},
		{"-0, +0, AtHigh", nums(noughtBelow, 0), 1, 2, api.AtHigh, api.Down, 0},
		{"-0, +0, AtMid", nums(noughtBelow, 0), 1, 2, api.AtMid, api.Down, noughtBelow},
		{"-0, +0, AtLine", nums(noughtBelow, 0), 1, 2, api.AtLine, api.Down, noughtBelow},
		{"-1, 1, AtMid", nums(-1, 1), 1, 2, api.AtMid, api.Even, 0},
		{"-1, 1, AtLine", nums(-1, 1), 1, 2, api.AtLine, api.Even, 0},
	} {
		x, e := Quantile(c.l, c.num, c.den, c.rule, c.mode)
		answers(t, c.name, x, e, c.is, api.OK)
	}
}

func TestExampleRefused(t *testing.T) {
	for _, c := range []struct {
		name       string
		l          []float64
		num, den   int
		rule, mode int
		e          api.Errno
	}{
		{"2 by 1", sample(), 2, 1, 0, 0, 1},
		{"0 by 0", sample(), 0, 0, 0, 0, 1},
		{"1 by 2^31 + 1", sample(), 1, 1<<31 + 1, 0, 0, 1},
		{"rule 5", sample(), 1, 2, 5, 0, 1},
		{"mode 5", sample(), 1, 2, 0, 5, 1},
		{"none", nil, 1, 2, 0, 0, 3},
		{"1, +Inf", nums(1, inf), 0, 1, 0, 0, 30},
	} {
		x, e := Quantile(c.l, c.num, c.den, c.rule, c.mode)
		refuses(t, c.name, x, e, c.e)
	}
}

func TestExampleSeveral(t *testing.T) {
	all, e := Several(sample(), 2, api.AtMid, api.Even)
	lists(t, "2 parts by AtMid", all, nums(10, 25, 40))
	if e != api.OK {
		t.Errorf("2 parts: error %d", e)
	}
	all, e = Several(sample(), 0, api.AtMid, api.Even)
	if len(all) > 0 || e != 1 {
		t.Errorf("no parts: %v, error %d", all, e)
	}
}

func TestExampleShare(t *testing.T) {
	for _, c := range []struct {
		name     string
		l        []float64
		x        float64
		num, den int
		e        api.Errno
	}{
		{"20", sample(), 20, 2, 4, api.OK},
		{"19", sample(), 19, 1, 4, api.OK},
		{"-Inf", sample(), -inf, 0, 4, api.OK},
		{"-0, 1; +0", nums(noughtBelow, 1), 0, 1, 2, api.OK},
		{"NaN", sample(), hole, 0, 0, 30},
		{"none", nil, 1, 0, 0, 3},
	} {
		num, den, e := Share(c.l, c.x)
		shares(t, c.name, num, den, e, c.num, c.den, c.e)
	}
}
