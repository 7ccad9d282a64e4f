package sums

import (
	"math"
	"math/big"
	"slices"
	"testing"

	"steelyard/api"
)

const (
	least      = 0x1p-1074
	normal     = 0x1p-1022 // the least one
	greatest   = math.MaxFloat64
	answered   = 0x7FF8000000000000 // the bits of the NaN that is answered
	answered32 = 0x7FC00000         // and of the one of 32 bits
	longest    = 65536              // numbers of a list
)

var (
	inf         = math.Inf(1)
	hole        = math.Float64frombits(answered)
	noughtBelow = math.Copysign(0, -1)
)

func hex(x float64) uint64 { return math.Float64bits(x) }

func sameBits(x, y float64) bool { return hex(x) == hex(y) }

func two(n int) float64 { return math.Ldexp(1, n) }

func turned(x float64) float64 { return math.Float64frombits(hex(x) ^ 1<<63) }

// same fails unless the answer has just these bits.
func same(t *testing.T, what string, x, is float64) {
	t.Helper()
	if !sameBits(x, is) {
		t.Errorf("%s: %x (bits %x); want %x (bits %x)", what, x, hex(x), is, hex(is))
	}
}

// answers fails unless both, the number and the error, are just these.
func answers(t *testing.T, what string, x float64, e api.Errno, is float64, want api.Errno) {
	t.Helper()
	if !sameBits(x, is) || e != want {
		t.Errorf("%s: %x (bits %x), error %d; want %x (bits %x), error %d", what, x, hex(x), e, is, hex(is), want)
	}
}

// refuses fails unless there is just this error, and +0 beside it.
func refuses(t *testing.T, what string, x float64, e, want api.Errno) {
	t.Helper()
	answers(t, what, x, e, 0, want)
}

// stepped is the sum of two numbers, by chapter 5's words for a step; the exact value, and its rounding, are the library's.
func stepped(a, b float64) float64 {
	switch {
	case a != a || b != b || math.IsInf(a, 0) && b == -a:
		return hole
	case math.IsInf(a, 0):
		return a
	case math.IsInf(b, 0):
		return b
	case a == 0 && b == 0:
		if math.Signbit(a) && math.Signbit(b) {
			return noughtBelow
		}
		return 0
	}
	x, _ := exactly(a, b).Float64()
	return x
}

// lessened is a difference: the sum with the second one's sign turned.
func lessened(a, b float64) float64 { return stepped(a, turned(b)) }

// exactly is the sum of finite numbers, not rounded; one of nought is +0.
func exactly(l ...float64) *big.Float {
	v := new(big.Float).SetPrec(2200)
	for _, x := range l {
		v.Add(v, big.NewFloat(x))
	}
	return v
}

// once is the sum of numbers of which some may not be finite, rounded but once.
func once(l ...float64) float64 {
	s := 0.0
	for _, x := range l {
		s = stepped(s, x)
	}
	if s-s != 0 {
		return s
	}
	x, _ := exactly(l...).Float64()
	return x
}

// inSteps are the usual sums, word by word as P10.2 to P10.6 have them, in steps that are worked out by the library.
type inSteps struct{}

func (inSteps) running(l []float64) float64 {
	if len(l) == 0 {
		return 0
	}
	s := l[0]
	for _, x := range l[1:] {
		s = stepped(s, x)
	}
	return quiet(s)
}

func (m inSteps) halving(l []float64) float64 {
	switch len(l) {
	case 0:
		return 0
	case 1:
		return quiet(l[0])
	}
	k := 1
	for 2*k < len(l) {
		k *= 2
	}
	return stepped(m.halving(l[:k]), m.halving(l[k:]))
}

func (inSteps) kahan(l []float64) float64 {
	s, c := 0.0, 0.0
	for _, x := range l {
		y := lessened(x, c)
		t := stepped(s, y)
		u := lessened(t, s)
		c = lessened(u, y)
		s = t
	}
	return s
}

func (inSteps) neumaier(l []float64) float64 {
	s, c := 0.0, 0.0
	for _, x := range l {
		t := stepped(s, x)
		var v float64
		if math.Abs(s) >= math.Abs(x) {
			u := lessened(s, t)
			v = stepped(u, x)
		} else {
			u := lessened(x, t)
			v = stepped(u, s)
		}
		c = stepped(c, v)
		s = t
	}
	return stepped(s, c)
}

func (m inSteps) blocked(l []float64, size int) float64 {
	var sums []float64
	for len(l) > size {
		sums = append(sums, m.running(l[:size]))
		l = l[size:]
	}
	if len(l) > 0 {
		sums = append(sums, m.running(l))
	}
	return m.running(sums)
}

// quiet makes any NaN the one that is answered.
func quiet(x float64) float64 {
	if x != x {
		return hole
	}
	return x
}

// usual holds each of the usual sums of a list against its steps.
func usual(t *testing.T, l []float64) {
	t.Helper()
	var m inSteps
	for _, c := range []struct {
		name string
		x    float64
		is   float64
	}{
		{"Running", Running(l), m.running(l)},
		{"Halving", Halving(l), m.halving(l)},
		{"Kahan", Kahan(l), m.kahan(l)},
		{"Neumaier", Neumaier(l), m.neumaier(l)},
	} {
		if !sameBits(c.x, c.is) {
			t.Errorf("%s of %d numbers, %x ..: %x (bits %x); want %x (bits %x)", c.name, len(l), l[:min(len(l), 8)], c.x, hex(c.x), c.is, hex(c.is))
		}
	}
}

// inUnits is a finite number's value, in units of the least small one.
func inUnits(x float64) *big.Int {
	v := big.NewFloat(x)
	n, how := v.SetMantExp(v, 1074).Int(nil)
	if how != big.Exact {
		panic("a unit is too great")
	}
	return n
}

// real is a value of so many units.
func real(n *big.Int) *big.Float {
	v := new(big.Float).SetPrec(8192).SetInt(n)
	return v.SetMantExp(v, -1074)
}

// total is the exact sum of the finite ones, in units, and the sum of their sizes.
func total(l []float64) (sum, sizes *big.Int) {
	sum, sizes = new(big.Int), new(big.Int)
	for _, x := range l {
		if x-x == 0 {
			n := inUnits(x)
			sum.Add(sum, n)
			sizes.Add(sizes, n.Abs(n))
		}
	}
	return sum, sizes
}

// neighbours are the greatest number that is not above v, and the least one that is not below it.
func neighbours(v *big.Float) (low, high float64) {
	x, _ := v.Float64()
	switch c := big.NewFloat(x).Cmp(v); {
	case c < 0:
		return x, math.Nextafter(x, inf)
	case c > 0:
		return math.Nextafter(x, -inf), x
	}
	return x, x
}

// rounded is so many units (not none), rounded once, by DOC.md's words.
func rounded(n *big.Int, mode int) float64 {
	v := real(n)
	low, high := neighbours(v)
	in, out := low, high
	if n.Sign() < 0 {
		in, out = high, low
	}
	switch mode {
	case api.Zero:
		return in
	case api.Up:
		return high
	case api.Down:
		return low
	case api.Even:
		x, _ := v.Float64()
		return x
	}
	// The infinity stands where the next power of two does, as steps are measured there.
	far := big.NewFloat(out)
	if math.IsInf(out, 0) {
		far = new(big.Float).SetMantExp(big.NewFloat(math.Copysign(1, out)), 1024)
	}
	middle := new(big.Float).SetPrec(8192).Add(big.NewFloat(in), far)
	twice := new(big.Float).SetPrec(8192).Add(v, v)
	if twice.Abs(twice).Cmp(middle.Abs(middle)) < 0 {
		return in
	}
	return out
}

// right is what P10.1 says of a list that is not too long, by chapter 7's words for Round.
func right(l []float64, mode int, p api.Policy) (float64, api.Errno) {
	any := func(is func(x float64) bool) bool { return slices.ContainsFunc(l, is) }
	odd := any(func(x float64) bool { return x != x })
	up := any(func(x float64) bool { return x == inf })
	down := any(func(x float64) bool { return x == -inf })
	switch {
	case mode < 0 || mode > 4 || p.NaN < 0 || p.NaN > 2 || p.Inf < 0 || p.Inf > 2:
		return 0, api.ErrArg
	case odd && p.NaN == api.Refuse:
		return 0, api.ErrNaN
	case (up || down) && p.Inf == api.Refuse:
		return 0, api.ErrEndless
	case odd && p.NaN == api.Carry, up && down && p.Inf == api.Carry:
		return hole, api.OK
	case up && p.Inf == api.Carry:
		return inf, api.OK
	case down && p.Inf == api.Carry:
		return -inf, api.OK
	}
	if n, _ := total(l); n.Sign() != 0 {
		return rounded(n, mode), api.OK
	}
	finite := slices.DeleteFunc(slices.Clone(l), func(x float64) bool { return x-x != 0 })
	minus := func(x float64) bool { return sameBits(x, noughtBelow) }
	plus := func(x float64) bool { return sameBits(x, 0) }
	other := func(is func(x float64) bool) bool {
		return slices.ContainsFunc(finite, func(x float64) bool { return !is(x) })
	}
	if len(finite) > 0 && (!other(minus) || other(plus) && mode == api.Down) {
		return noughtBelow, api.OK
	}
	return 0, api.OK
}

func policies() []api.Policy {
	var all []api.Policy
	for n := range 3 {
		for i := range 3 {
			all = append(all, api.Policy{NaN: n, Inf: i})
		}
	}
	return all
}

// strangers are policies that may not be, by either of the two, or by both.
func strangers() []api.Policy {
	var all []api.Policy
	for _, n := range []int{-1, 3, 256, 1 << 32, -1 << 32, math.MinInt, math.MaxInt} {
		for in := range 3 {
			all = append(all, api.Policy{NaN: n, Inf: in}, api.Policy{NaN: in, Inf: n})
		}
		all = append(all, api.Policy{NaN: n, Inf: n})
	}
	return all
}

func noModes() []int { return []int{-1, 5, 6, -5, 256, 1 << 32, -1 << 32, math.MinInt, math.MaxInt} }

// odds are NaNs of many bits, quiet ones and others, of either sign.
func odds() []float64 {
	var l []float64
	for _, sign := range []uint64{0, 1 << 63} {
		for _, frac := range []uint64{1, 2, 1 << 50, 1 << 51, 1<<51 | 1, 1<<52 - 1, 1<<51 - 1, 0x5A5A5A5A5A5A5} {
			l = append(l, math.Float64frombits(sign|0x7FF<<52|frac))
		}
	}
	return l
}

// edges are finite ones, of either sign: noughts, the ends of all numbers, and such between which steps are rounded.
func edges() []float64 {
	var l []float64
	for _, x := range []float64{
		0, least, 3 * least, normal - least, normal, normal + least, 0x1p-60, 0x1p-53, 0x1.0000000000001p-53, 0.1, 0.2, 1 - 0x1p-53,
		1, 1 + 0x1p-52, 3, 0x1p53 - 1, 0x1p53, 0x1p53 + 2, 0x1p100, 1e308, 0x1p970, 0x1.fffffffffffffp969, 0x1p971, greatest,
	} {
		l = append(l, x, turned(x))
	}
	return l
}

// few are numbers of every kind: lists of several of them, in all ways, are soon gone through.
func few() []float64 {
	return []float64{0, noughtBelow, least, -least, 1, -1, 0x1p-53, -0x1p-54, 0x1p53, -0x1p53, 0x1p100, greatest, -greatest, 0x1p970, inf, -inf, math.Float64frombits(0xFFF0000000000001)}
}

// eachList hands on all lists of n numbers of a row.
func eachList(n int, row []float64, do func(l []float64)) {
	l := make([]float64, n)
	var at func(i int)
	at = func(i int) {
		if i == n {
			do(l)
			return
		}
		for _, x := range row {
			l[i] = x
			at(i + 1)
		}
	}
	at(0)
}

// often is a list of x, n times.
func often(n int, x float64) []float64 { return slices.Repeat([]float64{x}, n) }

// dice is a row of words that looks like none in particular, and is the same at each run.
type dice uint64

func (d *dice) roll() uint64 {
	*d = *d*6364136223846793005 + 1442695040888963407
	return uint64(*d >> 11)
}

func (d *dice) below(n int) int { return int(d.roll()>>8) % n }

func (d *dice) of(l []float64) float64 { return l[d.below(len(l))] }

// sized is of either sign, from 2^low on and below 2^(high + 1).
func (d *dice) sized(low, high int) float64 {
	x := math.Ldexp(math.Float64frombits(hex(1)|d.roll()&(1<<52-1)), low+d.below(high-low+1))
	if d.below(2) == 1 {
		return -x
	}
	return x
}

// whole is a whole number of a size below 2^36.
func (d *dice) whole() float64 {
	x := float64(d.roll() >> 10 & (1<<36 - 1))
	if d.below(2) == 1 {
		return turned(x)
	}
	return x
}

// list is n finite numbers: of like sizes, or of all, some of which cancel earlier ones, or nearly.
func (d *dice) list(n int) []float64 {
	var l []float64
	low := d.below(1900) - 1000
	for range n {
		x := d.sized(low, low+70)
		switch d.below(8) {
		case 0:
			x = d.of(edges())
		case 1, 2:
			if len(l) > 0 {
				x = -d.of(l)
			}
		case 3:
			if len(l) > 0 {
				x = -math.Nextafter(d.of(l), 0)
			}
		}
		l = append(l, x)
	}
	return l
}

// near is a list of numbers whose sums don't overflow, and of which each step is rounded.
func (d *dice) near(n int) []float64 {
	var l []float64
	for range n {
		l = append(l, d.sized(-30, 30))
	}
	return l
}

func (d *dice) shuffle(l []float64) {
	for i := range l {
		j := i + d.below(len(l)-i)
		l[i], l[j] = l[j], l[i]
	}
}

// lengths are those at which halves change, and some more.
func lengths() []int {
	all := []int{0, 5, 6, 11, 13, 21, 22, 43, 85, 100, 1000}
	for n := 1; n <= 4096; n *= 2 {
		all = append(all, n, n+1, max(n-1, 0))
	}
	return all
}
