package quant

import (
	"math"
	"slices"
	"testing"

	"steelyard/api"
)

const (
	least    = 0x1p-1074
	normal   = 0x1p-1022 // the least one
	greatest = math.MaxFloat64
	answered = 0x7FF8000000000000 // the bits of the NaN that is answered
	longest  = 65536              // numbers of a list
	finest   = 1 << 31            // the greatest den
)

var (
	inf         = math.Inf(1)
	hole        = math.Float64frombits(answered)
	noughtBelow = math.Copysign(0, -1)
)

func hex(x float64) uint64 { return math.Float64bits(x) }

func sameBits(x, y float64) bool { return hex(x) == hex(y) }

func turned(x float64) float64 { return math.Float64frombits(hex(x) ^ 1<<63) }

// nums writes a list.
func nums(x ...float64) []float64 { return x }

// often is a list of x, n times.
func often(n int, x float64) []float64 { return slices.Repeat([]float64{x}, n) }

// brief keeps failures of long lists readable.
func brief[T any](l []T) []T { return l[:min(len(l), 12)] }

// answers fails unless both, the number and the error, are just these.
func answers(t *testing.T, what string, x float64, e api.Errno, is float64, want api.Errno) {
	t.Helper()
	if !sameBits(x, is) || e != want {
		t.Errorf("%s: %x (bits %x), error %d; want %x (bits %x), error %d", what, x, hex(x), e, is, hex(is), want)
	}
}

// refuses fails unless there is just this error, and +0 beside it.
func refuses(t *testing.T, what string, x float64, e, want api.Errno) {
	t.Helper()
	answers(t, what, x, e, 0, want)
}

// lists fails unless the two lists are the same, bit by bit.
func lists(t *testing.T, what string, l, is []float64) {
	t.Helper()
	if !slices.EqualFunc(l, is, sameBits) {
		t.Errorf("%s: %d numbers, %x; want %d, %x", what, len(l), brief(l), len(is), brief(is))
	}
}

// shares fails unless all three are just these.
func shares(t *testing.T, what string, num, den int, e api.Errno, isNum, isDen int, want api.Errno) {
	t.Helper()
	if num != isNum || den != isDen || e != want {
		t.Errorf("%s: %d by %d, error %d; want %d by %d, error %d", what, num, den, e, isNum, isDen, want)
	}
}

func everyMode(x float64) [5]float64 { return [5]float64{x, x, x, x, x} }

// byModes is what stands between two numbers, the first of them nearer to nought: by Even and by Away it is what is handed in for them.
func byModes(even, away, in, out float64) [5]float64 {
	if out < 0 {
		return [5]float64{even, in, in, out, away}
	}
	return [5]float64{even, in, out, in, away}
}

// noModes are none of the five, nor are they rules.
func noModes() []int { return []int{-1, 5, 6, -5, 256, 1 << 32, -1 << 32, math.MinInt, math.MaxInt} }

// odds are NaNs of many bits, quiet ones and others, of either sign.
func odds() []float64 {
	var l []float64
	for _, sign := range []uint64{0, 1 << 63} {
		for _, frac := range []uint64{1, 2, 1 << 50, 1 << 51, 1<<51 | 1, 1<<52 - 1, 1<<51 - 1, 0x5A5A5A5A5A5A5} {
			l = append(l, math.Float64frombits(sign|0x7FF<<52|frac))
		}
	}
	return l
}

// edges are finite ones, of either sign: noughts, the ends of all numbers, and their neighbours.
func edges() []float64 {
	var l []float64
	for _, x := range []float64{
		0, least, 2 * least, 3 * least, normal - least, normal, normal + least, 0x1p-600, 0x1p-53, 0.1, 1 - 0x1p-53,
		1, 1 + 0x1p-52, 3, 0x1p53 - 1, 0x1p53, 1e200, 0x1p970, 0x1p971, 0x1p1023, math.Nextafter(greatest, 0), greatest,
	} {
		l = append(l, x, turned(x))
	}
	return l
}

// few are finite numbers of every kind: lists of several of them, in all ways, are soon gone through.
func few() []float64 {
	return []float64{0, noughtBelow, least, -least, 1, -1, 3, greatest, -greatest}
}

// eachList hands on all lists of n numbers of a row.
func eachList(n int, row []float64, do func(l []float64)) {
	l := make([]float64, n)
	var at func(i int)
	at = func(i int) {
		if i == n {
			do(l)
			return
		}
		for _, x := range row {
			l[i] = x
			at(i + 1)
		}
	}
	at(0)
}

// dice is a row of words that looks like none in particular, and is the same at each run.
type dice uint64

func (d *dice) roll() uint64 {
	*d = *d*6364136223846793005 + 1442695040888963407
	return uint64(*d >> 11)
}

func (d *dice) below(n int) int { return int(d.roll()>>8) % n }

func (d *dice) of(l []float64) float64 { return l[d.below(len(l))] }

// share is a num and a den, the den of any size that may be.
func (d *dice) share() (num, den int) {
	den = 1 + d.below(1<<d.below(32))
	return d.below(den + 1), den
}

// sized is of either sign, from 2^low on and below 2^(high + 1); small ones have fewer bits.
func (d *dice) sized(low, high int) float64 {
	x := math.Ldexp(math.Float64frombits(hex(1)|d.roll()&(1<<52-1)), low+d.below(high-low+1))
	if d.below(2) == 1 {
		return -x
	}
	return x
}

// finite is one of any size.
func (d *dice) finite() float64 {
	if d.below(4) == 0 {
		return d.of(edges())
	}
	return d.sized(-1080, 1023)
}

// list is n numbers by one way to throw them.
func (d *dice) list(n int, throw func() float64) []float64 {
	l := make([]float64, n)
	for i := range l {
		l[i] = throw()
	}
	return l
}

// near is a way to throw numbers of like sizes.
func (d *dice) near() func() float64 {
	low := d.below(2040) - 1060
	return func() float64 { return d.sized(low, low+40) }
}

// close is a way to throw numbers that lie close together: few unlike ones, many that are alike.
func (d *dice) close() func() float64 {
	x := d.sized(-1000, 1000)
	return func() float64 { return math.Float64frombits(hex(x) + uint64(d.below(5))) }
}

// crowd is a way to throw few numbers, so that most are alike to others.
func (d *dice) crowd() func() float64 {
	return func() float64 { return d.of(few()) }
}

// noughts is a way to throw both noughts, and what lies close to them.
func (d *dice) noughts() func() float64 {
	return func() float64 { return d.of(nums(0, noughtBelow, 0, noughtBelow, least, -least)) }
}

// throws are ways to throw finite numbers.
func (d *dice) throws() []func() float64 {
	return []func() float64{d.near(), d.finite, d.close(), d.crowd(), d.noughts()}
}

// shuffled is a list in another order.
func (d *dice) shuffled(l []float64) []float64 {
	l = slices.Clone(l)
	for i := range l {
		j := i + d.below(len(l)-i)
		l[i], l[j] = l[j], l[i]
	}
	return l
}

// many hands on many lists of finite numbers, none of them empty: all short ones of a few numbers of every kind, and others of up to some forty numbers, as they come, in order, and all the same.
func many(seed dice, do func(l []float64)) {
	d := seed
	for n := 1; n < 4; n++ {
		eachList(n, few(), do)
	}
	for n := 1; n < 40; n++ {
		for _, throw := range d.throws() {
			l := d.list(n, throw)
			do(l)
			slices.SortFunc(l, byKey)
			do(l)
		}
		do(often(n, d.finite()))
	}
}

// long are lists of n finite numbers: of any size, with many that are alike, in order and from behind, all the same.
func long(seed dice, n int) [][]float64 {
	d := seed
	var all [][]float64
	for _, throw := range d.throws() {
		all = append(all, d.list(n, throw))
	}
	rising := slices.SortedFunc(slices.Values(all[0]), byKey)
	falling := slices.Clone(rising)
	slices.Reverse(falling)
	return append(all, rising, falling, often(n, d.finite()))
}

// turnedAll is a list with its signs turned.
func turnedAll(l []float64) []float64 {
	l = slices.Clone(l)
	for i, x := range l {
		l[i] = turned(x)
	}
	return l
}

// turnedMode is Up for Down, and Down for Up.
func turnedMode(mode int) int {
	switch mode {
	case api.Up:
		return api.Down
	case api.Down:
		return api.Up
	}
	return mode
}
