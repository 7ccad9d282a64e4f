package fit

import (
	"math"
	"slices"
	"testing"

	"steelyard/api"
)

const (
	least    = 0x1p-1074
	normal   = 0x1p-1022 // the least one
	greatest = math.MaxFloat64
	answered = 0x7FF8000000000000 // the bits of a NaN
	longest  = 65536              // numbers of a list
)

var (
	inf         = math.Inf(1)
	hole        = math.Float64frombits(answered)
	noughtBelow = math.Copysign(0, -1)
)

func hex(x float64) uint64 { return math.Float64bits(x) }

func sameBits(x, y float64) bool { return hex(x) == hex(y) }

func turned(x float64) float64 { return math.Float64frombits(hex(x) ^ 1<<63) }

// nums writes a list.
func nums(x ...float64) []float64 { return x }

// often is a list of x, n times.
func often(n int, x float64) []float64 { return slices.Repeat([]float64{x}, n) }

// brief keeps failures of long lists readable.
func brief(l []float64) []float64 { return l[:min(len(l), 8)] }

// answers fails unless both, the number and the error, are just these.
func answers(t *testing.T, what string, x float64, e api.Errno, is float64, want api.Errno) {
	t.Helper()
	if !sameBits(x, is) || e != want {
		t.Errorf("%s: %x (bits %x), error %d; want %x (bits %x), error %d", what, x, hex(x), e, is, hex(is), want)
	}
}

// refuses fails unless there is just this error, and +0 beside it.
func refuses(t *testing.T, what string, x float64, e, want api.Errno) {
	t.Helper()
	answers(t, what, x, e, 0, want)
}

// fits fails unless both, each number of the line and the error, are just these.
func fits(t *testing.T, what string, f api.Fit, e api.Errno, is api.Fit, want api.Errno) {
	t.Helper()
	if !sameFit(f, is) || e != want {
		t.Errorf("%s: %x, error %d; want %x, error %d", what, f, e, is, want)
	}
}

// sameFit holds two lines against each other by their bits: of both noughts == would make one.
func sameFit(f, g api.Fit) bool {
	return f.N == g.N && sameBits(f.Slope, g.Slope) && sameBits(f.Cut, g.Cut) && sameBits(f.Told, g.Told) && sameBits(f.Left, g.Left)
}

func everyMode(x float64) [5]float64 { return [5]float64{x, x, x, x, x} }

// byModes is what stands between two numbers, the first of them nearer to nought: by Even it is the one that is handed in, by Away too.
func byModes(near, in, out float64) [5]float64 {
	if out < 0 {
		return [5]float64{near, in, in, out, near}
	}
	return [5]float64{near, in, out, in, near}
}

// tie is what stands just in the middle of two numbers, the first of them nearer to nought.
func tie(in, out float64) [5]float64 {
	even := in
	if hex(in)%2 == 1 {
		even = out
	}
	if out < 0 {
		return [5]float64{even, in, in, out, out}
	}
	return [5]float64{even, in, out, in, out}
}

// What lies beyond all numbers by every mode, what lies far below the least one, and both below nought.
func beyond() [5]float64 { return byModes(inf, greatest, inf) }

func beyondBelow() [5]float64 { return byModes(-inf, -greatest, -inf) }

func under() [5]float64 { return byModes(0, 0, least) }

func underBelow() [5]float64 { return byModes(noughtBelow, noughtBelow, -least) }

func noModes() []int { return []int{-1, 5, 6, -5, 256, 1 << 32, -1 << 32, math.MinInt, math.MaxInt} }

// notFinite are both infinities, and NaNs of many bits, quiet ones and others, of either sign.
func notFinite() []float64 {
	l := []float64{inf, -inf}
	for _, sign := range []uint64{0, 1 << 63} {
		for _, frac := range []uint64{1, 2, 1 << 50, 1 << 51, 1<<51 | 1, 1<<52 - 1, 1<<51 - 1, 0x5A5A5A5A5A5A5} {
			l = append(l, math.Float64frombits(sign|0x7FF<<52|frac))
		}
	}
	return l
}

// edges are finite ones, of either sign: noughts, the ends of all numbers, and such whose products lie at these ends, or beyond.
func edges() []float64 {
	var l []float64
	for _, x := range []float64{
		0, least, 3 * least, normal - least, normal, 0x1p-600, 0x1p-537, 0x1.8p-537, 0x1p-53, 0.1, 1 - 0x1p-53,
		1, 1 + 0x1p-52, 3, 0x1p53 - 1, 0x1p100, 0x1.fffffffffffffp511, 0x1p512, 1e200, 0x1p1023, greatest,
	} {
		l = append(l, x, turned(x))
	}
	return l
}

// eachList hands on all lists of n numbers of a row.
func eachList(n int, row []float64, do func(l []float64)) {
	l := make([]float64, n)
	var at func(i int)
	at = func(i int) {
		if i == n {
			do(l)
			return
		}
		for _, x := range row {
			l[i] = x
			at(i + 1)
		}
	}
	at(0)
}

// dice is a row of words that looks like none in particular, and is the same at each run.
type dice uint64

func (d *dice) roll() uint64 {
	*d = *d*6364136223846793005 + 1442695040888963407
	return uint64(*d >> 11)
}

func (d *dice) below(n int) int { return int(d.roll()>>8) % n }

func (d *dice) of(l []float64) float64 { return l[d.below(len(l))] }

// sized is of either sign, from 2^low on and below 2^(high + 1); small ones have fewer bits.
func (d *dice) sized(low, high int) float64 {
	x := math.Ldexp(math.Float64frombits(hex(1)|d.roll()&(1<<52-1)), low+d.below(high-low+1))
	if d.below(2) == 1 {
		return -x
	}
	return x
}

// finite is one of any size.
func (d *dice) finite() float64 {
	if d.below(4) == 0 {
		return d.of(edges())
	}
	return d.sized(-1080, 1023)
}

// list is n numbers by one way to throw them.
func (d *dice) list(n int, throw func() float64) []float64 {
	l := make([]float64, n)
	for i := range l {
		l[i] = throw()
	}
	return l
}

// near is a way to throw numbers of like sizes.
func (d *dice) near() func() float64 {
	low := d.below(2040) - 1060
	return func() float64 { return d.sized(low, low+40) }
}

// close is a way to throw numbers that lie close together, far from nought.
func (d *dice) close() func() float64 {
	x := d.sized(-1000, 1000)
	return func() float64 { return math.Float64frombits(hex(x) + uint64(d.below(5))) }
}

// small is a way to throw whole numbers, few of them: sums are often nought.
func (d *dice) small() func() float64 {
	return func() float64 { return float64(d.below(7) - 3) }
}

// throws are all of these ways.
func (d *dice) throws() []func() float64 {
	return []func() float64{d.near(), d.finite, d.close(), d.small()}
}

// dealt are two lists of one length in another order, alike for both.
func (d *dice) dealt(a, b []float64) (x, y []float64) {
	x, y = slices.Clone(a), slices.Clone(b)
	for i := range x {
		j := i + d.below(len(x)-i)
		x[i], x[j] = x[j], x[i]
		y[i], y[j] = y[j], y[i]
	}
	return x, y
}

// turnedAll is a list with its signs turned.
func turnedAll(l []float64) []float64 {
	l = slices.Clone(l)
	for i, x := range l {
		l[i] = turned(x)
	}
	return l
}

// turnedMode is Up for Down, and Down for Up.
func turnedMode(mode int) int {
	switch mode {
	case api.Up:
		return api.Down
	case api.Down:
		return api.Up
	}
	return mode
}

// oneValue says that all numbers of a list have one value, both noughts being one.
func oneValue(l []float64) bool {
	return !slices.ContainsFunc(l, func(x float64) bool { return x != l[0] })
}
