package pool

import (
	"math"
	"slices"
	"testing"

	"steelyard/api"
)

const (
	tiny     = 0x1p-1074
	normal   = 0x1p-1022 // the least one
	greatest = math.MaxFloat64
	answered = 0x7FF8000000000000 // the bits of the NaN that is answered
	signBit  = 1 << 63
	longest  = 65536 // numbers of a list, and of a piece; pieces
	most     = 64    // workers
)

var (
	inf         = math.Inf(1)
	hole        = math.Float64frombits(answered)
	noughtBelow = math.Copysign(0, -1)
	plain       = api.Policy{}
	strict      = api.Policy{NaN: api.Refuse, Inf: api.Refuse}
)

func hex(x float64) uint64 { return math.Float64bits(x) }

func turned(x float64) float64 { return math.Float64frombits(hex(x) ^ signBit) }

// nums writes a list, order a schedule.
func nums(x ...float64) []float64 { return x }

func order(n ...int) []int { return n }

// often is a list of n times the same number.
func often(n int, x float64) []float64 { return slices.Repeat(nums(x), n) }

// brief keeps failures of long lists readable.
func brief[E any](l []E) []E { return l[:min(len(l), 10)] }

// told puts what is answered into one value, to be held against another.
type told struct {
	bits uint64
	e    api.Errno
}

func tell(x float64, e api.Errno) told { return told{hex(x), e} }

func is(x float64) told { return told{hex(x), api.OK} }

func not(e api.Errno) told { return told{0, e} }

// same fails unless each call answered what stands at its place.
func same(t *testing.T, what string, got []told, want ...told) {
	t.Helper()
	if len(got) != len(want) {
		t.Fatalf("%s: %d answers; want %d", what, len(got), len(want))
	}
	for i := range want {
		if got[i] != want[i] {
			t.Errorf("%s, the answer %d: %x; want %x", what, i, got[i], want[i])
		}
	}
}

// policies are all that may be.
func policies() []api.Policy {
	var l []api.Policy
	for nan := range 3 {
		for inf := range 3 {
			l = append(l, api.Policy{NaN: nan, Inf: inf})
		}
	}
	return l
}

// noPolicies are such as may not be, by either of the two, or by both.
func noPolicies() []api.Policy {
	var l []api.Policy
	for _, bad := range []int{-1, 3, 4, 256, math.MinInt, math.MaxInt, 1 << 32} {
		for good := range 3 {
			l = append(l, api.Policy{NaN: bad, Inf: good}, api.Policy{NaN: good, Inf: bad}, api.Policy{NaN: bad, Inf: bad})
		}
	}
	return l
}

func noModes() []int { return order(-1, 5, 6, 256, math.MinInt, math.MaxInt, 1<<32, -1<<32) }

func noLess() []int { return order(-1, 2, 3, 256, math.MinInt, math.MaxInt, 1<<32, -1<<32) }

// noSizes are such as a size may not be, noWorkers as workers may not be.
func noSizes() []int {
	return order(0, -1, longest+1, 2*longest, math.MinInt, math.MaxInt, 1<<32, 1<<32+1, -1<<32, -longest)
}

func noWorkers() []int {
	return order(0, -1, most+1, 2*most, math.MinInt, math.MaxInt, 1<<32, 1<<32+1, 256+1, -1<<32, -most)
}

// odds are NaNs of many bits, quiet ones and others, of either sign.
func odds() []float64 {
	var l []float64
	for _, sign := range []uint64{0, signBit} {
		for _, frac := range []uint64{1, 2, 1 << 50, 1 << 51, 1<<51 | 1, 1<<52 - 1, 1<<51 - 1, 0x5A5A5A5A5A5A5} {
			l = append(l, math.Float64frombits(sign|0x7FF<<52|frac))
		}
	}
	return l
}

// edges are of either sign: noughts, infinities, the ends of all numbers, and their neighbours.
func edges() []float64 {
	var l []float64
	for _, x := range []float64{
		0, tiny, 2 * tiny, 3 * tiny, normal - tiny, normal, normal + tiny, 0x1p-600, 0x1p-537, 0x1p-53, 0.1, 1 - 0x1p-53,
		1, 1 + 0x1p-52, 3, 0x1p53 - 1, 0x1p53, 1e200, 0x1p512, 0x1p970, 0x1p971, 0x1p1023, math.Nextafter(greatest, 0), greatest, inf,
	} {
		l = append(l, x, turned(x))
	}
	return l
}

// sorts are a few of every kind: lists of several of them, in all ways, are soon gone through.
func sorts() []float64 {
	return nums(0, noughtBelow, 1, -1, tiny, -greatest, inf, -inf, hole, odds()[3])
}

// eachList hands on all lists of n of a row.
func eachList[E any](n int, row []E, do func(l []E)) {
	l := make([]E, n)
	var at func(i int)
	at = func(i int) {
		if i == n {
			do(l)
			return
		}
		for _, x := range row {
			l[i] = x
			at(i + 1)
		}
	}
	at(0)
}

// dice is a row of words that looks like none in particular, and is the same at each run.
type dice uint64

func (d *dice) roll() uint64 {
	*d = *d*6364136223846793005 + 1442695040888963407
	return uint64(*d >> 11)
}

func (d *dice) below(n int) int { return int(d.roll()>>8) % n }

func (d *dice) of(l []float64) float64 { return l[d.below(len(l))] }

// sized is a number of either sign whose power of two lies between two.
func (d *dice) sized(low, high int) float64 {
	x := math.Ldexp(1+float64(d.roll()&(1<<52-1))*0x1p-52, low+d.below(high-low+1))
	if d.below(2) == 0 {
		return x
	}
	return -x
}

// finite is a number of any size.
func (d *dice) finite() float64 { return d.sized(-1074, 1023) }

// any is a number of any kind and of any bits.
func (d *dice) any() float64 {
	switch d.below(8) {
	case 0:
		return d.of(odds())
	case 1:
		return d.of(edges())
	case 2:
		return d.of(nums(0, noughtBelow))
	}
	return math.Float64frombits(d.roll()<<32 ^ d.roll())
}

// list is n numbers of a kind.
func (d *dice) list(n int, kind func(d *dice) float64) []float64 {
	l := make([]float64, n)
	for i := range l {
		l[i] = kind(d)
	}
	return l
}

// order is a schedule of n numbers of any size and sign.
func (d *dice) order(n int) []int {
	l := make([]int, n)
	for i := range l {
		l[i] = int(d.roll()<<32^d.roll()) >> d.below(64)
	}
	return l
}

// shuffled is a list in another order.
func (d *dice) shuffled(l []float64) []float64 {
	l = slices.Clone(l)
	for i := range l {
		j := i + d.below(len(l)-i)
		l[i], l[j] = l[j], l[i]
	}
	return l
}

// kinds are what lists are made of.
func kinds() []func(d *dice) float64 {
	return []func(d *dice) float64{
		(*dice).any,
		(*dice).finite,
		func(d *dice) float64 { return d.of(edges()) },
		func(d *dice) float64 { return d.of(sorts()) },
		func(d *dice) float64 { return d.of(nums(0, noughtBelow)) },
		func(d *dice) float64 { return noughtBelow },
		func(d *dice) float64 { return d.of(nums(0, noughtBelow, 1, -1, tiny, -tiny)) },
		func(d *dice) float64 { return d.of(nums(greatest, -greatest, 0x1p1023, -0x1p970, 1)) },
		func(d *dice) float64 { return d.sized(-2, 2) },
		func(d *dice) float64 { return d.sized(-1074, -1060) },
		func(d *dice) float64 { return d.of(nums(1e16, -1e16, 1, 0.1, 1e100, -1e100)) },
		func(d *dice) float64 { return d.of(append(odds(), 1, 2)) },
		func(d *dice) float64 { return d.of(nums(inf, -inf, 1, 2, 3, 4)) },
		func(d *dice) float64 { return d.of(nums(inf, hole)) },
		func(d *dice) float64 { return d.of(nums(-inf, noughtBelow, hole)) },
	}
}

// schedules are such as are told apart by their lengths, by what lies below nought, and by the ends of whole numbers.
func schedules() [][]int {
	d := dice(2301)
	return [][]int{
		nil, {}, {0}, {1}, {-1}, {63}, {64}, {-64}, {math.MinInt}, {math.MaxInt}, {0, 1}, {1, 0}, {0, 1, 1}, {0, 4, -1}, {5, 4, 3, 2, 1, 0},
		{math.MinInt, math.MaxInt}, {math.MaxInt, math.MinInt, -1, 0}, {-1, -2, -3, -4, -5, -6, -7, -8, -9}, d.order(7), d.order(40), d.order(100),
	}
}
