package shard

import (
	"bytes"
	"math"
	"slices"
	"testing"

	"steelyard/api"
)

const (
	tiny     = 0x1p-1074
	normal   = 0x1p-1022 // the least one
	greatest = math.MaxFloat64
	answered = 0x7FF8000000000000 // the bits of the NaN that is answered
	endless  = 0x7FF << 52
	signBit  = 1 << 63
	longest  = 65536   // numbers of a list
	most40   = 1 << 40 // numbers of a shard
)

var (
	inf         = math.Inf(1)
	hole        = math.Float64frombits(answered)
	noughtBelow = math.Copysign(0, -1)
	carry       = api.Policy{}
)

func hex(x float64) uint64 { return math.Float64bits(x) }

func turned(x float64) float64 { return math.Float64frombits(hex(x) ^ signBit) }

// nums writes a list.
func nums(x ...float64) []float64 { return x }

// often is a list of n times the same number.
func often(n int, x float64) []float64 { return slices.Repeat(nums(x), n) }

// brief keeps failures of long lists readable.
func brief(l []float64) []float64 { return l[:min(len(l), 10)] }

// policies are all that may be.
func policies() []api.Policy {
	var l []api.Policy
	for nan := range 3 {
		for inf := range 3 {
			l = append(l, api.Policy{NaN: nan, Inf: inf})
		}
	}
	return l
}

// noPolicies are such as may not be.
func noPolicies() []api.Policy {
	var l []api.Policy
	for _, bad := range []int{-1, 3, 4, math.MinInt, math.MaxInt, 1 << 32} {
		for good := range 3 {
			l = append(l, api.Policy{NaN: bad, Inf: good}, api.Policy{NaN: good, Inf: bad}, api.Policy{NaN: bad, Inf: bad})
		}
	}
	return l
}

func noModes() []int { return []int{-1, 5, 6, math.MinInt, math.MaxInt, 1 << 32, 256} }

func noLess() []int { return []int{-1, 2, 3, math.MinInt, math.MaxInt, 1 << 32, 256} }

// odds are NaNs of many bits, quiet ones and others, of either sign.
func odds() []float64 {
	var l []float64
	for _, sign := range []uint64{0, signBit} {
		for _, frac := range []uint64{1, 2, 1 << 50, 1 << 51, 1<<51 | 1, 1<<52 - 1, 1<<51 - 1, 0x5A5A5A5A5A5A5} {
			l = append(l, math.Float64frombits(sign|endless|frac))
		}
	}
	return l
}

// edges are of either sign: noughts, infinities, the ends of all numbers, and their neighbours; no two of the same bits.
func edges() []float64 {
	var l []float64
	for _, x := range []float64{
		0, tiny, 2 * tiny, 3 * tiny, normal - tiny, normal, normal + tiny, 0x1p-600, 0x1p-53, 0.1, 1 - 0x1p-53,
		1, 1 + 0x1p-52, 3, 0x1p53 - 1, 0x1p53, 1e200, 0x1p970, 0x1p971, 0x1p1023, math.Nextafter(greatest, 0), greatest, inf,
	} {
		l = append(l, x, turned(x))
	}
	return l
}

// sorts are a few of every kind: lists of several of them, in all ways, are soon gone through.
func sorts() []float64 {
	return nums(0, noughtBelow, 1, -1, tiny, -greatest, inf, -inf, hole, odds()[3])
}

// want fails unless a call answers just this, bit by bit.
func want(t *testing.T, what string, x float64, e api.Errno, is float64) {
	t.Helper()
	if e != api.OK || hex(x) != hex(is) {
		t.Errorf("%s: %x, error %d; want %x", what, x, e, is)
	}
}

// refuses fails unless a call answers just this error, and +0 beside it.
func refuses(t *testing.T, what string, x float64, e, is api.Errno) {
	t.Helper()
	if e != is || hex(x) != 0 {
		t.Errorf("%s: %x, error %d; want error %d", what, x, e, is)
	}
}

// told puts what is answered into one value, to be held against another.
type told struct {
	bits uint64
	e    api.Errno
}

func tell(x float64, e api.Errno) told { return told{hex(x), e} }

// of is a shard to which these were added.
func of(l ...float64) *Shard {
	s := New()
	for _, x := range l {
		s.Add(x)
	}
	return s
}

// merged is a new shard, with which these were merged, one behind the other.
func merged(t *testing.T, all ...*Shard) *Shard {
	t.Helper()
	s := New()
	for _, b := range all {
		if e := s.Merge(b); e != api.OK {
			t.Errorf("Merge: error %d", e)
		}
	}
	return s
}

// again is the shard that is read of s's bytes.
func again(t *testing.T, s *Shard) *Shard {
	t.Helper()
	b := s.Encode()
	d, e := Decode(b)
	if e != api.OK || d == nil {
		t.Fatalf("Decode of Encode, %v: error %d", b, e)
	}
	if !bytes.Equal(d.Encode(), b) {
		t.Errorf("Encode of Decode: %v; want %v", d.Encode(), b)
	}
	return d
}

// alike fails unless two shards tell the same, whatever is asked, and have the same bytes.
func alike(t *testing.T, what string, a, b *Shard) {
	t.Helper()
	pair := func(name string, x, y told) {
		t.Helper()
		if x != y {
			t.Errorf("%s: %s %x, and %x", what, name, x, y)
		}
	}
	if a.Count() != b.Count() {
		t.Errorf("%s: Count %d, and %d", what, a.Count(), b.Count())
	}
	if x, y := a.Encode(), b.Encode(); !bytes.Equal(x, y) {
		t.Errorf("%s: Encode %v, and %v", what, x, y)
	}
	pair("Least", tell(a.Least()), tell(b.Least()))
	pair("Most", tell(a.Most()), tell(b.Most()))
	for mode := range 5 {
		for _, p := range policies() {
			pair("Sum", tell(a.Sum(mode, p)), tell(b.Sum(mode, p)))
			pair("Mean", tell(a.Mean(mode, p)), tell(b.Mean(mode, p)))
			for less := range 2 {
				pair("Var", tell(a.Var(less, mode, p)), tell(b.Var(less, mode, p)))
			}
		}
	}
}

// eachList hands on all lists of n numbers of a row.
func eachList(n int, row []float64, do func(l []float64)) {
	l := make([]float64, n)
	var at func(i int)
	at = func(i int) {
		if i == n {
			do(l)
			return
		}
		for _, x := range row {
			l[i] = x
			at(i + 1)
		}
	}
	at(0)
}

// dice is a row of words that looks like none in particular, and is the same at each run.
type dice uint64

func (d *dice) roll() uint64 {
	*d = *d*6364136223846793005 + 1442695040888963407
	return uint64(*d >> 11)
}

func (d *dice) below(n int) int { return int(d.roll()>>8) % n }

func (d *dice) of(l []float64) float64 { return l[d.below(len(l))] }

// sized is a number of either sign whose power of two lies between two.
func (d *dice) sized(low, high int) float64 {
	x := math.Ldexp(1+float64(d.roll()&(1<<52-1))*0x1p-52, low+d.below(high-low+1))
	if d.below(2) == 0 {
		return x
	}
	return -x
}

// finite is a number of any size.
func (d *dice) finite() float64 { return d.sized(-1074, 1023) }

// any is a number of any kind and of any bits.
func (d *dice) any() float64 {
	switch d.below(8) {
	case 0:
		return d.of(odds())
	case 1:
		return d.of(edges())
	case 2:
		return d.of(nums(0, noughtBelow))
	}
	return math.Float64frombits(d.roll()<<32 ^ d.roll())
}

// list is n numbers of a kind.
func (d *dice) list(n int, kind func(d *dice) float64) []float64 {
	l := make([]float64, n)
	for i := range l {
		l[i] = kind(d)
	}
	return l
}

// shuffled is a list in another order.
func (d *dice) shuffled(l []float64) []float64 {
	l = slices.Clone(l)
	for i := range l {
		j := i + d.below(len(l)-i)
		l[i], l[j] = l[j], l[i]
	}
	return l
}

// kinds are what shards are filled with.
func kinds() []func(d *dice) float64 {
	return []func(d *dice) float64{
		(*dice).any,
		(*dice).finite,
		func(d *dice) float64 { return d.of(edges()) },
		func(d *dice) float64 { return d.of(sorts()) },
		func(d *dice) float64 { return d.of(nums(0, noughtBelow)) },
		func(d *dice) float64 { return d.of(nums(0, noughtBelow, 1, -1, tiny, -tiny)) },
		func(d *dice) float64 { return d.of(nums(greatest, -greatest, 0x1p1023, -0x1p970, 1)) },
		func(d *dice) float64 { return d.sized(-2, 2) },
		func(d *dice) float64 { return d.sized(-40, 40) },
		func(d *dice) float64 { return d.sized(-1074, -1060) },
		func(d *dice) float64 { return float64(d.below(9) - 4) },
		func(d *dice) float64 { return d.of(nums(1e16, -1e16, 1, 0.1, 1e100, -1e100)) },
		func(d *dice) float64 { return d.of(append(odds(), 1, 2)) },
		func(d *dice) float64 { return d.of(nums(inf, -inf, 1, 2, 3, 4)) },
		func(d *dice) float64 { return d.of(nums(inf, hole)) },
		func(d *dice) float64 { return d.of(nums(-inf, noughtBelow, hole)) },
	}
}
