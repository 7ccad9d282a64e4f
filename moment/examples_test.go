package moment

import (
	"testing"

	"steelyard/api"
	"steelyard/dyad"
)

func TestExampleVar(t *testing.T) {
	far := nums(1e8+1, 1e8+2, 1e8+3)
	for _, c := range []struct {
		name       string
		l          []float64
		less, mode int
		p          api.Policy
		is         float64
		e          api.Errno
	}{
		{"1 2 3 4, less 0", nums(1, 2, 3, 4), 0, 0, api.Policy{}, 1.25, api.OK},
		{"1 2 3 4, less 1", nums(1, 2, 3, 4), 1, 0, api.Policy{}, 1.6666666666666667, api.OK},
		{"1e8 + 1, 1e8 + 2, 1e8 + 3", far, 0, 0, api.Policy{}, 0.6666666666666666, api.OK},
		{"5, less 1", nums(5), 1, 0, api.Policy{}, 0, 3},
		{"none", nil, 0, 0, api.Policy{}, 0, 3},
		{"5, less 0", nums(5), 0, 0, api.Policy{}, 0, api.OK},
		{"5, less 2", nums(5), 2, 0, api.Policy{}, 0, 1},
		{"1 NaN 3, {Carry, Carry}", nums(1, hole, 3), 0, 0, api.Policy{}, hole, api.OK},
		{"1 NaN 3, {Pass, Carry}", nums(1, hole, 3), 0, 0, api.Policy{NaN: 1}, 1, api.OK},
		{"1 NaN 3, {Refuse, Carry}", nums(1, hole, 3), 0, 0, api.Policy{NaN: 2}, 0, 60},
		{"NaN alone, less 1", nums(hole), 1, 0, api.Policy{}, hole, api.OK},
		{"1e200 -1e200, Even", nums(1e200, -1e200), 0, 0, api.Policy{}, inf, api.OK},
		{"1e200 -1e200, Zero", nums(1e200, -1e200), 0, 1, api.Policy{}, greatest, api.OK},
	} {
		x, e := Var(c.l, c.less, c.mode, c.p)
		answers(t, c.name, x, e, c.is, c.e)
	}
	x, e := Std(nums(1, 2, 3, 4), 1, 0, api.Policy{})
	answers(t, "Std of 1 2 3 4, less 1", x, e, 1.2909944487358056, api.OK)
}

func TestExampleCentral(t *testing.T) {
	for _, c := range []struct {
		name    string
		l       []float64
		k, mode int
		is      float64
		e       api.Errno
	}{
		{"1 2 6, k 3", nums(1, 2, 6), 3, 0, 6, api.OK},
		{"1 2 6, k 1, Down", nums(1, 2, 6), 1, 3, 0, api.OK},
		{"1 2, k 5", nums(1, 2), 5, 0, 0, 1},
	} {
		x, e := Central(c.l, c.k, c.mode)
		answers(t, c.name, x, e, c.is, c.e)
	}
}

func TestExampleCo(t *testing.T) {
	x, e := Co(nums(1, 2, 3), nums(2, 4, 7), 1, 0)
	answers(t, "1 2 3, 2 4 7, less 1", x, e, 2.5, api.OK)
	x, e = Co(nums(1, 2), nums(1), 0, 0)
	answers(t, "1 2, 1", x, e, 0, 4)
}

func TestExampleLink(t *testing.T) {
	for _, c := range []struct {
		name string
		a, b []float64
		mode int
		is   float64
		e    api.Errno
	}{
		{"1 2 3, 2 4 7", nums(1, 2, 3), nums(2, 4, 7), 0, 0.9933992677987828, api.OK},
		{"1 2 3, 3 2 1, Up", nums(1, 2, 3), nums(3, 2, 1), 2, -1, api.OK},
		{"1 1, 1 2", nums(1, 1), nums(1, 2), 0, 0, 190},
		{"1 2, NaN 1", nums(1, 2), nums(hole, 1), 0, 0, 30},
	} {
		x, e := Link(c.a, c.b, c.mode)
		answers(t, c.name, x, e, c.is, c.e)
	}
}

func TestExampleOf(t *testing.T) {
	for _, c := range []struct {
		name            string
		n, sum, squares int
		is              float64
		e               api.Errno
	}{
		{"4, 10, 30", 4, 10, 30, 1.25, api.OK},
		{"2, 10, 1", 2, 10, 1, -24.5, api.OK},
		{"0, 0, 0", 0, 0, 0, 0, 1},
	} {
		x, e := Of(c.n, dyad.Int(c.sum), dyad.Int(c.squares), 0, 0)
		answers(t, c.name, x, e, c.is, c.e)
	}
}
