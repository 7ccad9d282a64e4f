package policy

import (
	"math"
	"math/big"
	"slices"
	"strconv"
	"testing"

	"steelyard/api"
)

const (
	least    = 0x1p-1074
	normal   = 0x1p-1022 // the least one
	greatest = math.MaxFloat64
	answered = 0x7FF8000000000000 // the bits of the NaN that is answered
	most     = 1 << 40            // of each of the Specials
)

var (
	odd   = math.Float64frombits(answered)
	inf   = math.Inf(1)
	minus = math.Copysign(0, -1)
)

func hex(x float64) uint64 { return math.Float64bits(x) }

func hexes(l []float64) []uint64 {
	var b []uint64
	for _, x := range l {
		b = append(b, hex(x))
	}
	return b
}

// alike tells whether both lists have the same bits, one by one.
func alike(a, b []float64) bool { return slices.Equal(hexes(a), hexes(b)) }

// policies are the nine that may be.
func policies() []api.Policy {
	var all []api.Policy
	for _, n := range []int{api.Carry, api.Pass, api.Refuse} {
		for _, i := range []int{api.Carry, api.Pass, api.Refuse} {
			all = append(all, api.Policy{NaN: n, Inf: i})
		}
	}
	return all
}

// strangers are policies that may not be, by either of the two, or by both.
func strangers() []api.Policy {
	var all []api.Policy
	out := []int{-1, 3, -2, 4, -3, 256, 1 << 32, -1 << 32, math.MinInt, math.MaxInt}
	for _, a := range out {
		for in := range 3 {
			all = append(all, api.Policy{NaN: a, Inf: in}, api.Policy{NaN: in, Inf: a})
		}
		for _, b := range out {
			all = append(all, api.Policy{NaN: a, Inf: b})
		}
	}
	return all
}

// odds are NaNs of many bits, quiet ones and others, of either sign.
func odds() []float64 {
	var l []float64
	d := dice(60)
	for _, sign := range []uint64{0, 1 << 63} {
		for _, frac := range []uint64{1, 2, 1 << 50, 1 << 51, 1<<51 | 1, 1<<52 - 1, 1<<51 - 1, 1 + d.roll()%(1<<52-1)} {
			l = append(l, math.Float64frombits(sign|0x7FF<<52|frac))
		}
	}
	return l
}

// finites are the edges among those that a sum can be made of, of either sign.
func finites() []float64 {
	var l []float64
	for _, x := range []float64{0, least, 2 * least, normal - least, normal, 0.1, 1 - 0x1p-53, 1, 1 + 0x1p-52, 2.5, 0x1p53, math.Nextafter(greatest, 0), greatest} {
		l = append(l, x, -x)
	}
	// A constant nought has no sign to turn.
	l[1] = minus
	return l
}

// dice is a row of words that looks like none in particular, and is the same at each run.
type dice uint64

func (d *dice) roll() uint64 {
	*d = *d*6364136223846793005 + 1442695040888963407
	return uint64(*d >> 11)
}

func (d *dice) below(n int) int { return int(d.roll()>>8) % n }

// one is of any kind.
func (d *dice) one() float64 {
	switch d.below(8) {
	case 0:
		return odds()[d.below(len(odds()))]
	case 1:
		return inf
	case 2:
		return -inf
	case 3:
		return 0
	case 4:
		return minus
	case 5:
		return math.Float64frombits(d.roll()<<11 | d.roll()>>42)
	}
	return finites()[d.below(len(finites()))]
}

func (d *dice) list(n int) []float64 {
	var l []float64
	for range n {
		l = append(l, d.one())
	}
	return l
}

// told is what P6.2 says of a list, if nothing is refused; the kinds are told by the library's words for numbers.
func told(l []float64) ([]float64, api.Specials) {
	var left []float64
	kinds := map[string]int{}
	for _, x := range l {
		word := strconv.FormatFloat(x, 'g', -1, 64)
		kinds[word]++
		if word != "NaN" && word != "+Inf" && word != "-Inf" {
			left = append(left, x)
		}
	}
	return left, api.Specials{NaN: kinds["NaN"], Up: kinds["+Inf"], Down: kinds["-Inf"], Minus: kinds["-0"], Plus: kinds["0"], All: len(l)}
}

// sifted fails unless Sift answers this, with all others at their zero values if it is an error.
func sifted(t *testing.T, l []float64, p api.Policy, left []float64, s api.Specials, e api.Errno) {
	t.Helper()
	got, gotS, gotE := Sift(l, p)
	if !alike(got, left) || gotS != s || gotE != e {
		t.Errorf("Sift of %d numbers by %v: %d left, %+v, error %d; want %d, %+v, error %d", len(l), p, len(got), gotS, gotE, len(left), s, e)
	}
}

// refused fails unless Sift refuses with e.
func refused(t *testing.T, l []float64, p api.Policy, e api.Errno) {
	t.Helper()
	sifted(t, l, p, nil, api.Specials{}, e)
}

// judged fails unless Verdict answers just this.
func judged(t *testing.T, s api.Specials, p api.Policy, want float64, is bool) {
	t.Helper()
	if x, ok := Verdict(s, p); hex(x) != hex(want) || ok != is {
		t.Errorf("Verdict of %+v by %v: %v (%x), %v; want %v, %v", s, p, x, hex(x), ok, want, is)
	}
}

// nought fails unless Nought answers just this.
func nought(t *testing.T, s api.Specials, mode int, want float64) {
	t.Helper()
	if x := Nought(s, mode); hex(x) != hex(want) {
		t.Errorf("Nought of %+v by mode %d: %v (%x); want %v", s, mode, x, hex(x), want)
	}
}

// mayBe is the chapter's word on Specials, in whole numbers without a bound.
func mayBe(s api.Specials) bool {
	top, sum := big.NewInt(most), new(big.Int)
	for _, n := range []int{s.NaN, s.Up, s.Down, s.Minus, s.Plus} {
		one := big.NewInt(int64(n))
		if one.Sign() < 0 || one.Cmp(top) > 0 {
			return false
		}
		sum.Add(sum, one)
	}
	all := big.NewInt(int64(s.All))
	return all.Sign() >= 0 && all.Cmp(top) <= 0 && sum.Cmp(all) <= 0
}

// counted calls f with Specials whose six are each taken from among ns.
func counted(ns []int, f func(s api.Specials)) {
	var at [6]int
	for {
		f(api.Specials{NaN: ns[at[0]], Up: ns[at[1]], Down: ns[at[2]], Minus: ns[at[3]], Plus: ns[at[4]], All: ns[at[5]]})
		i := 0
		for ; i < 6 && at[i] == len(ns)-1; i++ {
			at[i] = 0
		}
		if i == 6 {
			return
		}
		at[i]++
	}
}

// bounds are counts at the edges of what may be, and such that four of them, or two, come to nought where an int's bound is passed.
func bounds() []int {
	return []int{math.MinInt, -1, 0, 1, most - 1, most, most + 1, 1 << 62, math.MaxInt}
}

// modes are the five, and such as are none.
func modes() []int {
	return []int{api.Even, api.Zero, api.Up, api.Down, api.Away, -1, 5, -3, 3 + 1<<8, 3 + 1<<32, math.MinInt, math.MaxInt}
}
