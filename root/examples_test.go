package root

import (
	"math"
	"testing"

	"steelyard/api"
)

func TestExampleQuot(t *testing.T) {
	for _, c := range []struct {
		name string
		r    api.Ratio
		mode int
		is   float64
		e    api.Errno
	}{
		{"1 / 3, Even", by(1, 3), 0, 0.3333333333333333, api.OK},
		{"1 / 3, Up", by(1, 3), 2, 0.33333333333333337, api.OK},
		{"-1 / 3, Zero", by(-1, 3), 1, -0.3333333333333333, api.OK},
		{"0 / 5, Down", by(0, 5), 3, 0, api.OK},
		{"6 / 2, Away", by(6, 2), 4, 3, api.OK},
		{"1 / 0", by(1, 0), 0, 0, 21},
		{"1 / -3", by(1, -3), 0, 0, 1},
		{"mode 5", by(1, 3), 5, 0, 1},
		{"2^1024 / 1, Even", over(two(1024)), 0, math.Inf(1), api.OK},
		{"2^1024 / 1, Zero", over(two(1024)), 1, math.MaxFloat64, api.OK},
		{"-1 / 2^1075, Even", api.Ratio{Num: in(-1), Den: two(1075)}, 0, math.Copysign(0, -1), api.OK},
		{"-1 / 2^1075, Down", api.Ratio{Num: in(-1), Den: two(1075)}, 3, -0x1p-1074, api.OK},
	} {
		x, e := Quot(c.r, c.mode)
		answers(t, c.name, x, e, c.is, c.e)
	}
	x, e := Quot32(by(1, 3), 0)
	answers32(t, "1 / 3, Even", x, e, 0.33333334, api.OK)
}

func TestExampleRoot(t *testing.T) {
	for _, c := range []struct {
		name string
		r    api.Ratio
		mode int
		is   float64
		e    api.Errno
	}{
		{"2 / 1, Even", by(2, 1), 0, 1.4142135623730951, api.OK},
		{"9 / 4, Down", by(9, 4), 3, 1.5, api.OK},
		{"-1 / 4", by(-1, 4), 0, 0, 110},
		{"0 / 1, Up", by(0, 1), 2, 0, api.OK},
	} {
		x, e := Root(c.r, c.mode)
		answers(t, c.name, x, e, c.is, c.e)
	}
	for _, mode := range []int{0, 1} {
		x, e := Root32(by(2, 1), mode)
		answers32(t, "2 / 1", x, e, 1.4142135, api.OK)
	}
}

func TestExampleWorks(t *testing.T) {
	// Forms by hand: 5 / 6, 0 / 4, 2 / 6, -4 / 6.
	r, e := Add(by(1, 2), by(1, 3))
	makes(t, "1 / 2 and 1 / 3", r, e, api.Ratio{Num: dy(false, 0, 5), Den: dy(false, 1, 3)}, api.OK)
	r, e = Sub(by(1, 2), by(1, 2))
	makes(t, "1 / 2 less 1 / 2", r, e, api.Ratio{Den: dy(false, 2, 1)}, api.OK)
	r, e = Mul(by(1, 2), by(2, 3))
	makes(t, "1 / 2 times 2 / 3", r, e, api.Ratio{Num: dy(false, 1, 1), Den: dy(false, 1, 3)}, api.OK)
	r, e = Div(by(1, 2), by(-3, 4))
	makes(t, "1 / 2 by -3 / 4", r, e, api.Ratio{Num: dy(true, 2, 1), Den: dy(false, 1, 3)}, api.OK)
	r, e = Div(by(1, 2), by(0, 3))
	makes(t, "1 / 2 by 0 / 3", r, e, api.Ratio{}, 21)
}

func TestExampleCmp(t *testing.T) {
	if c, e := Cmp(by(1, 3), by(2, 6)); c != 0 || e != api.OK {
		t.Errorf("1 / 3 and 2 / 6: %d, error %d", c, e)
	}
	if c, e := Cmp(by(-1, 2), by(1, 3)); c != -1 || e != api.OK {
		t.Errorf("-1 / 2 and 1 / 3: %d, error %d", c, e)
	}
}
