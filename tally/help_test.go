package tally

import (
	"math"
	"slices"
	"testing"

	"steelyard/api"
)

const (
	least    = 0x1p-1074
	normal   = 0x1p-1022 // the least one
	greatest = math.MaxFloat64
	answered = 0x7FF8000000000000 // the bits of the NaN that is answered
	endless  = 0x7FF << 52
	signBit  = 1 << 63
	most     = 1 << 40 // numbers that are counted
)

var (
	inf         = math.Inf(1)
	hole        = math.Float64frombits(answered)
	noughtBelow = math.Copysign(0, -1)
)

// kinds are both: not joined, joined.
var kinds = [...]bool{false, true}

func hex(x float64) uint64 { return math.Float64bits(x) }

func turned(x float64) float64 { return math.Float64frombits(hex(x) ^ signBit) }

// nums writes a list.
func nums(x ...float64) []float64 { return x }

// entry writes one.
func entry(x float64, n int) api.Entry { return api.Entry{Value: x, Count: n} }

// entries writes a list of them.
func entries(l ...api.Entry) []api.Entry { return l }

// sameEntry holds two against each other bit by bit, so that noughts and NaN are told apart.
func sameEntry(a, b api.Entry) bool { return a.Count == b.Count && hex(a.Value) == hex(b.Value) }

func sameEntries(a, b []api.Entry) bool { return slices.EqualFunc(a, b, sameEntry) }

// brief keeps failures of long lists readable.
func brief[T any](l []T) []T { return l[:min(len(l), 12)] }

// want fails unless the error is just this.
func want(t *testing.T, what string, e, is api.Errno) {
	t.Helper()
	if e != is {
		t.Errorf("%s: error %d; want %d", what, e, is)
	}
}

// odds are NaNs of many bits, quiet ones and others, of either sign.
func odds() []float64 {
	var l []float64
	for _, sign := range []uint64{0, signBit} {
		for _, frac := range []uint64{1, 2, 1 << 50, 1 << 51, 1<<51 | 1, 1<<52 - 1, 1<<51 - 1, 0x5A5A5A5A5A5A5} {
			l = append(l, math.Float64frombits(sign|endless|frac))
		}
	}
	return l
}

// ends are of either sign: noughts, infinities, the ends of all numbers, and their neighbours; no two of the same bits.
func ends() []float64 {
	var l []float64
	for _, x := range []float64{
		0, least, 2 * least, 3 * least, normal - least, normal, normal + least, 0x1p-600, 0x1p-53, 0.1, 1 - 0x1p-53,
		1, 1 + 0x1p-52, 3, 0x1p53 - 1, 0x1p53, 1e200, 0x1p970, 0x1p971, 0x1p1023, math.Nextafter(greatest, 0), greatest, inf,
	} {
		l = append(l, x, turned(x))
	}
	return l
}

// sorts are a few of every kind: lists of several of them, in all ways, are soon gone through.
func sorts() []float64 {
	return nums(0, noughtBelow, 1, -1, least, -greatest, inf, -inf, hole, odds()[3])
}

// eachList hands on all lists of n numbers of a row.
func eachList(n int, row []float64, do func(l []float64)) {
	l := make([]float64, n)
	var at func(i int)
	at = func(i int) {
		if i == n {
			do(l)
			return
		}
		for _, x := range row {
			l[i] = x
			at(i + 1)
		}
	}
	at(0)
}

// dice is a row of words that looks like none in particular, and is the same at each run.
type dice uint64

func (d *dice) roll() uint64 {
	*d = *d*6364136223846793005 + 1442695040888963407
	return uint64(*d >> 11)
}

func (d *dice) below(n int) int { return int(d.roll()>>8) % n }

func (d *dice) of(l []float64) float64 { return l[d.below(len(l))] }

func (d *dice) joined() bool { return d.below(2) == 1 }

// any is a number of any kind and of any bits.
func (d *dice) any() float64 {
	switch d.below(8) {
	case 0:
		return d.of(odds())
	case 1:
		return d.of(ends())
	case 2:
		return d.of(nums(0, noughtBelow))
	}
	return math.Float64frombits(d.roll()<<32 ^ d.roll())
}

// row is from 1 to n numbers, of which a list is made.
func (d *dice) row(n int) []float64 {
	l := make([]float64, 1+d.below(n))
	for i := range l {
		l[i] = d.any()
	}
	return l
}

// list is n numbers of a row: most of them are there several times.
func (d *dice) list(n int, row []float64) []float64 {
	l := make([]float64, n)
	for i := range l {
		l[i] = d.of(row)
	}
	return l
}

// shuffled is a list in another order.
func (d *dice) shuffled(l []float64) []float64 {
	l = slices.Clone(l)
	for i := range l {
		j := i + d.below(len(l)-i)
		l[i], l[j] = l[j], l[i]
	}
	return l
}
