package hist

import (
	"math"
	"slices"
	"testing"

	"steelyard/api"
)

const (
	least    = 0x1p-1074
	normal   = 0x1p-1022 // the least one
	greatest = math.MaxFloat64
	answered = 0x7FF8000000000000 // the bits of the NaN that is answered
	signBit  = 1 << 63
	longest  = 65536   // numbers of a list
	widest   = 1024    // edges
	most     = 1 << 40 // numbers that are counted
)

var (
	inf         = math.Inf(1)
	hole        = math.Float64frombits(answered)
	noughtBelow = math.Copysign(0, -1)
)

func hex(x float64) uint64 { return math.Float64bits(x) }

func sameBits(x, y float64) bool { return hex(x) == hex(y) }

func turned(x float64) float64 { return math.Float64frombits(hex(x) ^ signBit) }

func next(x float64) float64 { return math.Nextafter(x, inf) }

func prev(x float64) float64 { return math.Nextafter(x, -inf) }

// nums writes a list.
func nums(x ...float64) []float64 { return x }

// ints writes a list of counts.
func ints(n ...int) []int { return n }

// often is a list of x, n times.
func often(n int, x float64) []float64 { return slices.Repeat([]float64{x}, n) }

// rising is a list of n numbers: 0, 1, 2 ..
func rising(n int) []float64 {
	l := make([]float64, n)
	for i := range l {
		l[i] = float64(i)
	}
	return l
}

// brief keeps failures of long lists readable.
func brief[T any](l []T) []T { return l[:min(len(l), 12)] }

// want fails unless the error is just this.
func want(t *testing.T, what string, e, is api.Errno) {
	t.Helper()
	if e != is {
		t.Errorf("%s: error %d; want %d", what, e, is)
	}
}

// lists fails unless the two lists are the same, bit by bit.
func lists(t *testing.T, what string, l, is []float64) {
	t.Helper()
	if !slices.EqualFunc(l, is, sameBits) {
		t.Errorf("%s: %d numbers, %x; want %d, %x", what, len(l), brief(l), len(is), brief(is))
	}
}

// made is a Hist of edges that must not be refused.
func made(t *testing.T, edges ...float64) *Hist {
	t.Helper()
	h, e := New(edges)
	if h == nil || e != api.OK {
		t.Fatalf("New of %d edges, %x: nil %t, error %d", len(edges), brief(edges), h == nil, e)
	}
	return h
}

// refuses fails unless these are no edges.
func refuses(t *testing.T, what string, edges ...float64) {
	t.Helper()
	if h, e := New(edges); h != nil || e != api.ErrEdges {
		t.Errorf("%s: New of %d numbers, %x: nil %t, error %d", what, len(edges), brief(edges), h == nil, e)
	}
}

// told is all that a Hist tells.
type told struct {
	counts, running   []int
	below, above, odd int
	all               int
}

func tellsOf(h *Hist) told {
	below, above, odd := h.Outside()
	return told{counts: h.Counts(), running: h.Running(), below: below, above: above, odd: odd, all: h.All()}
}

func (a told) same(b told) bool {
	return slices.Equal(a.counts, b.counts) && slices.Equal(a.running, b.running) && a.below == b.below && a.above == b.above && a.odd == b.odd && a.all == b.all
}

// tells fails unless a Hist tells just this.
func tells(t *testing.T, what string, h *Hist, is told) {
	t.Helper()
	if got := tellsOf(h); !got.same(is) {
		t.Errorf("%s: Counts %d, Outside %d %d %d, All %d, Running %d; want %d, %d %d %d, %d, %d", what,
			brief(got.counts), got.below, got.above, got.odd, got.all, brief(got.running),
			brief(is.counts), is.below, is.above, is.odd, is.all, brief(is.running))
	}
}

// odds are NaNs of many bits, quiet ones and others, of either sign.
func odds() []float64 {
	var l []float64
	for _, sign := range []uint64{0, signBit} {
		for _, frac := range []uint64{1, 2, 1 << 50, 1 << 51, 1<<51 | 1, 1<<52 - 1, 1<<51 - 1, 0x5A5A5A5A5A5A5} {
			l = append(l, math.Float64frombits(sign|0x7FF<<52|frac))
		}
	}
	return l
}

// ends are finite ones, of either sign: noughts, the ends of all numbers, and their neighbours.
func ends() []float64 {
	var l []float64
	for _, x := range []float64{
		0, least, 2 * least, 3 * least, normal - least, normal, normal + least, 0x1p-600, 0x1p-53, 0.1, 1 - 0x1p-53,
		1, 1 + 0x1p-52, 3, 0x1p53 - 1, 0x1p53, 1e200, 0x1p970, 0x1p971, 0x1p1023, prev(greatest), greatest,
	} {
		l = append(l, x, turned(x))
	}
	return l
}

// few are numbers of every kind: lists of several of them, in all ways, are soon gone through.
func few() []float64 {
	return []float64{0, noughtBelow, least, -least, 1, -1, greatest, -greatest, inf, -inf, hole}
}

// eachList hands on all lists of n numbers of a row.
func eachList(n int, row []float64, do func(l []float64)) {
	l := make([]float64, n)
	var at func(i int)
	at = func(i int) {
		if i == n {
			do(l)
			return
		}
		for _, x := range row {
			l[i] = x
			at(i + 1)
		}
	}
	at(0)
}

// dice is a row of words that looks like none in particular, and is the same at each run.
type dice uint64

func (d *dice) roll() uint64 {
	*d = *d*6364136223846793005 + 1442695040888963407
	return uint64(*d >> 11)
}

func (d *dice) below(n int) int { return int(d.roll()>>8) % n }

func (d *dice) of(l []float64) float64 { return l[d.below(len(l))] }

// sized is of either sign, from 2^low on and below 2^(high + 1); small ones have fewer bits.
func (d *dice) sized(low, high int) float64 {
	x := math.Ldexp(math.Float64frombits(hex(1)|d.roll()&(1<<52-1)), low+d.below(high-low+1))
	if d.below(2) == 1 {
		return -x
	}
	return x
}

// finite is one of any size.
func (d *dice) finite() float64 {
	if d.below(4) == 0 {
		return d.of(ends())
	}
	return d.sized(-1080, 1023)
}

// any is a number of any kind.
func (d *dice) any() float64 {
	if d.below(8) == 0 {
		return d.of(append(odds(), inf, -inf))
	}
	return d.finite()
}

// edges are some, from 2 to n of them (n is 2 or more): of any size, close together, or whole numbers.
func (d *dice) edges(n int) []float64 {
	throw := d.finite
	switch d.below(3) {
	case 0:
		x := d.sized(-1060, 1000)
		throw = func() float64 { return math.Float64frombits(hex(x) + uint64(d.below(2*n))) }
	case 1:
		throw = func() float64 { return float64(d.below(4*n) - 2*n) }
	}
	l := make([]float64, 2+d.below(n-1))
	for i := range l {
		l[i] = throw()
	}
	slices.SortFunc(l, byValue)
	l = slices.CompactFunc(l, func(x, y float64) bool { return value(x) == value(y) })
	if len(l) < 2 {
		return nums(noughtBelow, least)
	}
	return l
}

// near is a number at an edge, beside one, between two, or any.
func (d *dice) near(edges []float64) float64 {
	x := d.of(edges)
	switch d.below(7) {
	case 0:
		return next(x)
	case 1:
		return prev(x)
	case 2:
		return turned(x)
	case 3:
		return x/2 + d.of(edges)/2
	case 4:
		return d.any()
	}
	return x
}

// list is n numbers, most of them near some edges.
func (d *dice) list(n int, edges []float64) []float64 {
	l := make([]float64, n)
	for i := range l {
		l[i] = d.near(edges)
	}
	return l
}

// shuffled is a list in another order.
func (d *dice) shuffled(l []float64) []float64 {
	l = slices.Clone(l)
	for i := range l {
		j := i + d.below(len(l)-i)
		l[i], l[j] = l[j], l[i]
	}
	return l
}
