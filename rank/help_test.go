package rank

import (
	"math"
	"slices"
	"testing"

	"steelyard/api"
)

const (
	least    = 0x1p-1074
	normal   = 0x1p-1022 // the least one
	greatest = math.MaxFloat64
	answered = 0x7FF8000000000000 // the bits of the NaN that is answered
	longest  = 65536              // numbers of a list
)

var (
	inf         = math.Inf(1)
	hole        = math.Float64frombits(answered)
	noughtBelow = math.Copysign(0, -1)
)

func hex(x float64) uint64 { return math.Float64bits(x) }

func sameBits(x, y float64) bool { return hex(x) == hex(y) }

func turned(x float64) float64 { return math.Float64frombits(hex(x) ^ 1<<63) }

// nums writes a list.
func nums(x ...float64) []float64 { return x }

// often is a list of x, n times.
func often(n int, x float64) []float64 { return slices.Repeat([]float64{x}, n) }

// brief keeps failures of long lists readable.
func brief[T any](l []T) []T { return l[:min(len(l), 12)] }

// answers fails unless both, the number and the error, are just these.
func answers(t *testing.T, what string, x float64, e api.Errno, is float64, want api.Errno) {
	t.Helper()
	if !sameBits(x, is) || e != want {
		t.Errorf("%s: %x (bits %x), error %d; want %x (bits %x), error %d", what, x, hex(x), e, is, hex(is), want)
	}
}

// refuses fails unless there is just this error, and +0 beside it.
func refuses(t *testing.T, what string, x float64, e, want api.Errno) {
	t.Helper()
	answers(t, what, x, e, 0, want)
}

// lists fails unless the two lists are the same, bit by bit.
func lists(t *testing.T, what string, l, is []float64) {
	t.Helper()
	if !slices.EqualFunc(l, is, sameBits) {
		t.Errorf("%s: %d numbers, %x; want %d, %x", what, len(l), brief(l), len(is), brief(is))
	}
}

// places fails unless the two are the same.
func places(t *testing.T, what string, p, is []int) {
	t.Helper()
	if !slices.Equal(p, is) {
		t.Errorf("%s: %d places, %d; want %d, %d", what, len(p), brief(p), len(is), brief(is))
	}
}

func everyMode(x float64) [5]float64 { return [5]float64{x, x, x, x, x} }

// byModes is what stands between two numbers, the first of them nearer to nought: by Even and by Away it is what is handed in for them.
func byModes(even, away, in, out float64) [5]float64 {
	if out < 0 {
		return [5]float64{even, in, in, out, away}
	}
	return [5]float64{even, in, out, in, away}
}

func noTies() []int { return []int{-1, 5, 6, -5, 256, 1 << 32, -1 << 32, math.MinInt, math.MaxInt} }

func noModes() []int { return noTies() }

// odds are NaNs of many bits, quiet ones and others, of either sign.
func odds() []float64 {
	var l []float64
	for _, sign := range []uint64{0, 1 << 63} {
		for _, frac := range []uint64{1, 2, 1 << 50, 1 << 51, 1<<51 | 1, 1<<52 - 1, 1<<51 - 1, 0x5A5A5A5A5A5A5} {
			l = append(l, math.Float64frombits(sign|0x7FF<<52|frac))
		}
	}
	return l
}

// edges are finite ones, of either sign: noughts, the ends of all numbers, and their neighbours.
func edges() []float64 {
	var l []float64
	for _, x := range []float64{
		0, least, 2 * least, 3 * least, normal - least, normal, normal + least, 0x1p-600, 0x1p-53, 0.1, 1 - 0x1p-53,
		1, 1 + 0x1p-52, 3, 0x1p53 - 1, 0x1p53, 1e200, 0x1p970, 0x1p971, 0x1p1023, math.Nextafter(greatest, 0), greatest,
	} {
		l = append(l, x, turned(x))
	}
	return l
}

// few are numbers of every kind: lists of several of them, in all ways, are soon gone through.
func few() []float64 {
	return []float64{0, noughtBelow, least, -least, 1, -1, greatest, inf, -inf, math.Float64frombits(0xFFF0000000000001), math.Float64frombits(0x7FFFFFFFFFFFFFFF)}
}

// eachList hands on all lists of n numbers of a row.
func eachList(n int, row []float64, do func(l []float64)) {
	l := make([]float64, n)
	var at func(i int)
	at = func(i int) {
		if i == n {
			do(l)
			return
		}
		for _, x := range row {
			l[i] = x
			at(i + 1)
		}
	}
	at(0)
}

// dice is a row of words that looks like none in particular, and is the same at each run.
type dice uint64

func (d *dice) roll() uint64 {
	*d = *d*6364136223846793005 + 1442695040888963407
	return uint64(*d >> 11)
}

func (d *dice) below(n int) int { return int(d.roll()>>8) % n }

func (d *dice) of(l []float64) float64 { return l[d.below(len(l))] }

// sized is of either sign, from 2^low on and below 2^(high + 1); small ones have fewer bits.
func (d *dice) sized(low, high int) float64 {
	x := math.Ldexp(math.Float64frombits(hex(1)|d.roll()&(1<<52-1)), low+d.below(high-low+1))
	if d.below(2) == 1 {
		return -x
	}
	return x
}

// finite is one of any size.
func (d *dice) finite() float64 {
	if d.below(4) == 0 {
		return d.of(edges())
	}
	return d.sized(-1080, 1023)
}

// any is of any kind, most often finite.
func (d *dice) any() float64 {
	switch d.below(16) {
	case 0:
		return d.of(odds())
	case 1:
		return inf
	case 2:
		return -inf
	case 3:
		return 0
	case 4:
		return noughtBelow
	}
	return d.finite()
}

// list is n numbers by one way to throw them.
func (d *dice) list(n int, throw func() float64) []float64 {
	l := make([]float64, n)
	for i := range l {
		l[i] = throw()
	}
	return l
}

// near is a way to throw numbers of like sizes.
func (d *dice) near() func() float64 {
	low := d.below(2040) - 1060
	return func() float64 { return d.sized(low, low+40) }
}

// close is a way to throw numbers that lie close together: few unlike ones, many that are alike.
func (d *dice) close() func() float64 {
	x := d.sized(-1000, 1000)
	return func() float64 { return math.Float64frombits(hex(x) + uint64(d.below(5))) }
}

// crowd is a way to throw few numbers of every kind, so that most are alike to others.
func (d *dice) crowd() func() float64 {
	return func() float64 { return d.of(few()) }
}

// shuffled is a list in another order.
func (d *dice) shuffled(l []float64) []float64 {
	l = slices.Clone(l)
	for i := range l {
		j := i + d.below(len(l)-i)
		l[i], l[j] = l[j], l[i]
	}
	return l
}

// many hands on many lists: all short ones of a few numbers of every kind, and others of up to some hundred numbers, some with many that are alike, in order and from behind.
func many(seed dice, do func(l []float64)) {
	d := seed
	for n := range 4 {
		eachList(n, few(), do)
	}
	for n := 1; n < 130; n++ {
		for _, throw := range []func() float64{d.near(), d.finite, d.any, d.close(), d.crowd()} {
			l := d.list(n, throw)
			do(l)
			slices.SortFunc(l, byKey)
			do(l)
			slices.Reverse(l)
			do(l)
		}
		do(often(n, d.any()))
	}
}

// turnedAll is a list with its signs turned.
func turnedAll(l []float64) []float64 {
	l = slices.Clone(l)
	for i, x := range l {
		l[i] = turned(x)
	}
	return l
}

// turnedMode is Up for Down, and Down for Up.
func turnedMode(mode int) int {
	switch mode {
	case api.Up:
		return api.Down
	case api.Down:
		return api.Up
	}
	return mode
}
