package dot

import (
	"testing"

	"steelyard/api"
)

func TestExampleDot(t *testing.T) {
	big, small := 0x1p600, 0x1p-600
	for _, c := range []struct {
		name string
		a, b []float64
		mode int
		p    api.Policy
		is   float64
		e    api.Errno
	}{
		{"nothing overflows on the way", nums(big, 1, big), nums(big, 1, -big), 0, api.Policy{}, 1, api.OK},
		{"beyond, Even", nums(1e200, 1), nums(1e200, 1), 0, api.Policy{}, inf, api.OK},
		{"beyond, Zero", nums(1e200, 1), nums(1e200, 1), 1, api.Policy{}, greatest, api.OK},
		{"below, Even", nums(small), nums(small), 0, api.Policy{}, 0, api.OK},
		{"below, Up", nums(small), nums(small), 2, api.Policy{}, least, api.OK},
		{"below nought, Even", nums(-small), nums(small), 0, api.Policy{}, noughtBelow, api.OK},
		{"below nought, Down", nums(-small), nums(small), 3, api.Policy{}, -least, api.OK},
		{"a nought times an infinity, carried", nums(inf, 1), nums(0, 2), 0, api.Policy{}, hole, api.OK},
		{"a nought times an infinity, passed over", nums(inf, 1), nums(0, 2), 0, api.Policy{NaN: api.Pass}, 2, api.OK},
		{"a nought times an infinity, refused", nums(inf, 1), nums(0, 2), 0, api.Policy{NaN: api.Refuse}, 0, 60},
		{"0 and -3", nums(0), nums(-3), 0, api.Policy{}, noughtBelow, api.OK},
		{"1, -1 and 1, 1, Even", nums(1, -1), nums(1, 1), 0, api.Policy{}, 0, api.OK},
		{"1, -1 and 1, 1, Down", nums(1, -1), nums(1, 1), 3, api.Policy{}, noughtBelow, api.OK},
		{"1 and none", nums(1), nil, 0, api.Policy{}, 0, 4},
		{"none and none", nil, nil, 0, api.Policy{}, 0, api.OK},
	} {
		x, e := Dot(c.a, c.b, c.mode, c.p)
		answers(t, c.name, x, e, c.is, c.e)
	}
}

func TestExampleNorm(t *testing.T) {
	for _, c := range []struct {
		name string
		a    []float64
		mode int
		is   float64
	}{
		{"3, 4", nums(3, 4), 0, 5},
		{"3 and 4 times 2^1000", nums(0x3p1000, 0x4p1000), 0, 0x5p1000},
		{"the greatest twice, Even", nums(greatest, greatest), 0, inf},
		{"the greatest twice, Zero", nums(greatest, greatest), 1, greatest},
		{"the least", nums(least), 0, least},
		{"1, 1, Down", nums(1, 1), 3, 1.414213562373095},
		{"1, 1, Up", nums(1, 1), 2, 1.4142135623730951},
		{"-Inf, NaN", nums(-inf, hole), 0, hole},
		{"-Inf, 1", nums(-inf, 1), 0, inf},
		{"-0", nums(noughtBelow), 0, 0},
	} {
		x, e := Norm(c.a, c.mode)
		answers(t, c.name, x, e, c.is, api.OK)
	}
}

func TestExampleDistance(t *testing.T) {
	for _, c := range []struct {
		name string
		a, b []float64
		mode int
		is   float64
	}{
		{"1, 2 and 4, 6", nums(1, 2), nums(4, 6), 0, 5},
		{"the greatest of either sign, Even", nums(greatest), nums(-greatest), 0, inf},
		{"the greatest of either sign, Down", nums(greatest), nums(-greatest), 3, greatest},
		{"1 and the least, Down", nums(1), nums(least), 3, 1 - 0x1p-53},
		{"1 and the least, Even", nums(1), nums(least), 0, 1},
		{"+Inf and +Inf", nums(inf), nums(inf), 0, hole},
		{"+Inf and -Inf", nums(inf), nums(-inf), 0, inf},
		{"+Inf, NaN and 1, 1", nums(inf, hole), nums(1, 1), 0, hole},
	} {
		x, e := Distance(c.a, c.b, c.mode)
		answers(t, c.name, x, e, c.is, api.OK)
	}
}

func TestExamplePoly(t *testing.T) {
	for _, c := range []struct {
		name string
		c    []float64
		x    float64
		mode int
		is   float64
		e    api.Errno
	}{
		{"1, 2, 3 at 2", nums(1, 2, 3), 2, 0, 17, api.OK},
		{"1, 2, 1 at -1", nums(1, 2, 1), -1, 0, 0, api.OK},
		{"1, 0, 1 at 2^600, Even", nums(1, 0, 1), 0x1p600, 0, inf, api.OK},
		{"1, 0, 1 at 2^600, Down", nums(1, 0, 1), 0x1p600, 3, greatest, api.OK},
		{"1, 0, 1 at 2^-600, Even", nums(1, 0, 1), 0x1p-600, 0, 1, api.OK},
		{"1, 0, 1 at 2^-600, Up", nums(1, 0, 1), 0x1p-600, 2, 1 + 0x1p-52, api.OK},
		{"none at NaN", nil, hole, 0, 0, 30},
		{"none at 3", nil, 3, 0, 0, api.OK},
		{"34 numbers", make([]float64, 34), 1, 0, 0, 2},
	} {
		x, e := Poly(c.c, c.x, c.mode)
		answers(t, c.name, x, e, c.is, c.e)
	}
}
