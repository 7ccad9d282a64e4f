package mean

import (
	"testing"

	"steelyard/api"
	"steelyard/dyad"
)

func TestExampleMean(t *testing.T) {
	for _, c := range []struct {
		name string
		l    []float64
		mode int
		p    api.Policy
		is   float64
		e    api.Errno
	}{
		{"7/3, Even", nums(1, 2, 4), 0, api.Policy{}, 0x1.2aaaaaaaaaaabp1, api.OK},
		{"7/3, Up", nums(1, 2, 4), 2, api.Policy{}, 0x1.2aaaaaaaaaaabp1, api.OK},
		{"7/3, Down", nums(1, 2, 4), 3, api.Policy{}, 0x1.2aaaaaaaaaaaap1, api.OK},
		{"the greatest twice", nums(greatest, greatest), 0, api.Policy{}, greatest, api.OK},
		{"the least and 0, Even", nums(least, 0), 0, api.Policy{}, 0, api.OK},
		{"the least and 0, Up", nums(least, 0), 2, api.Policy{}, least, api.OK},
		{"the least and 0, Away", nums(least, 0), 4, api.Policy{}, least, api.OK},
		{"less the least and 0, Even", nums(-least, 0), 0, api.Policy{}, noughtBelow, api.OK},
		{"-0 twice", nums(noughtBelow, noughtBelow), 0, api.Policy{}, noughtBelow, api.OK},
		{"1, -1, Even", nums(1, -1), 0, api.Policy{}, 0, api.OK},
		{"1, -1, Down", nums(1, -1), 3, api.Policy{}, noughtBelow, api.OK},
		{"-0, +0, Down", nums(noughtBelow, 0), 3, api.Policy{}, noughtBelow, api.OK},
		{"none", nil, 0, api.Policy{}, 0, 3},
		{"a NaN, {Carry, Carry}", nums(hole), 0, api.Policy{}, hole, api.OK},
		{"a NaN, {Pass, Carry}", nums(hole), 0, api.Policy{NaN: 1}, 0, 3},
		{"a NaN, {Refuse, Carry}", nums(hole), 0, api.Policy{NaN: 2}, 0, 60},
		{"+Inf, 1, {Carry, Carry}", nums(inf, 1), 0, api.Policy{}, inf, api.OK},
		{"+Inf, 1, {Carry, Pass}", nums(inf, 1), 0, api.Policy{Inf: 1}, 1, api.OK},
	} {
		x, e := Mean(c.l, c.mode, c.p)
		answers(t, c.name, x, e, c.is, c.e)
	}
}

func TestExampleWeighted(t *testing.T) {
	for _, c := range []struct {
		name string
		l, w []float64
		is   float64
		e    api.Errno
	}{
		{"1, 2; 1, 3", nums(1, 2), nums(1, 3), 1.75, api.OK},
		{"1, 2; 1, -1", nums(1, 2), nums(1, -1), 0, 21},
		{"1, 2; -1, -3", nums(1, 2), nums(-1, -3), 1.75, api.OK},
		{"1; 1, 2", nums(1), nums(1, 2), 0, 4},
		{"none", nil, nil, 0, 3},
	} {
		x, e := Weighted(c.l, c.w, api.Even)
		answers(t, c.name, x, e, c.is, c.e)
	}
}

func TestExampleMiddle(t *testing.T) {
	for _, c := range []struct {
		name string
		x, y float64
		is   float64
		e    api.Errno
	}{
		{"1, 2", 1, 2, 1.5, api.OK},
		{"the greatest twice", greatest, greatest, greatest, api.OK},
		{"1, +Inf", 1, inf, 0, 30},
	} {
		x, e := Middle(c.x, c.y, api.Even)
		answers(t, c.name, x, e, c.is, c.e)
	}
}

func TestExampleOf(t *testing.T) {
	for _, c := range []struct {
		name   string
		sum, n int
		is     float64
		e      api.Errno
	}{
		{"7 by 2", 7, 2, 3.5, api.OK},
		{"7 by 0", 7, 0, 0, 1},
		{"0 by 3", 0, 3, 0, api.OK},
	} {
		x, e := Of(dyad.Int(c.sum), c.n, api.Even)
		answers(t, c.name, x, e, c.is, c.e)
	}
}

func TestExampleTrimmed(t *testing.T) {
	for _, c := range []struct {
		name string
		l    []float64
		k    int
		is   float64
		e    api.Errno
	}{
		{"9, 1, 2, 100; 1", nums(9, 1, 2, 100), 1, 5.5, api.OK},
		{"1, 2; 1", nums(1, 2), 1, 0, 3},
		{"1; -1", nums(1), -1, 0, 1},
		{"-0, +0, 5; 1", nums(noughtBelow, 0, 5), 1, 0, api.OK},
	} {
		x, e := Trimmed(c.l, c.k, api.Even)
		answers(t, c.name, x, e, c.is, c.e)
	}
}
