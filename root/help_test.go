package root

import (
	"fmt"
	"math"
	"math/big"
	"slices"
	"testing"

	"steelyard/api"
)

const (
	full  = 1<<32 - 1
	limit = 32 * api.MaxWords
)

// value is m times two to the power of exp, by the library's own whole numbers.
type value struct {
	m   *big.Int
	exp int
}

// whole is a Nat by the library's own whole numbers.
func whole(n api.Nat) *big.Int {
	b := make([]byte, 4*len(n))
	for i, w := range n {
		for j := range 4 {
			b[len(b)-1-4*i-j] = byte(w >> (8 * j))
		}
	}
	return new(big.Int).SetBytes(b)
}

// words are those of |m|.
func words(m *big.Int) api.Nat {
	var n api.Nat
	b := m.Bytes()
	for i := range b {
		if i%4 == 0 {
			n = append(n, 0)
		}
		n[i/4] |= uint32(b[len(b)-1-i]) << (8 * (i % 4))
	}
	return n
}

// valueOf is a Dyad's value, whatever stands in it.
func valueOf(d api.Dyad) value {
	m := whole(d.Mag)
	if d.Neg {
		m.Neg(m)
	}
	if m.Sign() == 0 {
		return value{m, 0}
	}
	return value{m, d.Exp}
}

func product(a, b value) value { return value{new(big.Int).Mul(a.m, b.m), a.exp + b.exp} }

// level writes a as a whole number times two to the power of exp, which is not above its own.
func level(a value, exp int) *big.Int { return new(big.Int).Lsh(a.m, uint(a.exp-exp)) }

// stands is how a stands to b: -1, 0, 1.
func stands(a, b value) int {
	if a.m.Sign() != b.m.Sign() || a.m.Sign() == 0 {
		return a.m.Cmp(b.m)
	}
	if x, y := a.m.BitLen()+a.exp, b.m.BitLen()+b.exp; x < y {
		return -a.m.Sign()
	} else if x > y {
		return a.m.Sign()
	}
	exp := min(a.exp, b.exp)
	return level(a, exp).Cmp(level(b, exp))
}

// formed is the form of what a Dyad stands for, or ErrLong, by chapter 3's words. Its Exp may lie at the ends of int.
func formed(d api.Dyad) (api.Dyad, api.Errno) {
	m := whole(d.Mag)
	if m.Sign() == 0 {
		return api.Dyad{}, api.OK
	}
	low := m.TrailingZeroBits()
	m.Rsh(m, low)
	exp := new(big.Int).Add(big.NewInt(int64(d.Exp)), big.NewInt(int64(low)))
	if m.BitLen() > limit || exp.CmpAbs(big.NewInt(api.MaxExp)) > 0 {
		return api.Dyad{}, api.ErrLong
	}
	return api.Dyad{Neg: d.Neg, Mag: words(m), Exp: int(exp.Int64())}, api.OK
}

func dyadOf(v value) (api.Dyad, api.Errno) {
	return formed(api.Dyad{Neg: v.m.Sign() < 0, Mag: words(v.m), Exp: v.exp})
}

// amiss is what the chapter refuses of ratios ahead of ErrBelow and of all products, in its order.
func amiss(l ...api.Ratio) api.Errno {
	any := func(is func(r api.Ratio) bool) bool { return slices.ContainsFunc(l, is) }
	refused := func(d api.Dyad) bool {
		_, e := formed(d)
		return e != api.OK
	}
	nought := func(r api.Ratio) bool { return whole(r.Den.Mag).Sign() == 0 }
	switch {
	case any(func(r api.Ratio) bool { return r.Den.Neg && !nought(r) }):
		return api.ErrArg
	case any(func(r api.Ratio) bool { return refused(r.Num) || refused(r.Den) }):
		return api.ErrLong
	case any(nought):
		return api.ErrNought
	}
	return api.OK
}

func sameDyad(a, b api.Dyad) bool {
	return a.Neg == b.Neg && a.Exp == b.Exp && slices.Equal(a.Mag, b.Mag)
}

func sameRatio(a, b api.Ratio) bool { return sameDyad(a.Num, b.Num) && sameDyad(a.Den, b.Den) }

// brief keeps failures of long ones readable.
func brief(d api.Dyad) string {
	if len(d.Mag) > 8 {
		return fmt.Sprintf("{%t, %d words: %v .. %v, %d}", d.Neg, len(d.Mag), d.Mag[:3], d.Mag[len(d.Mag)-3:], d.Exp)
	}
	return fmt.Sprintf("{%t, %v, %d}", d.Neg, d.Mag, d.Exp)
}

func told(r api.Ratio) string { return brief(r.Num) + " / " + brief(r.Den) }

// two is 2^exp in its form, be it one that may be or not.
func two(exp int) api.Dyad { return api.Dyad{Mag: api.Nat{1}, Exp: exp} }

// less is d with the other sign.
func less(d api.Dyad) api.Dyad { return api.Dyad{Neg: !d.Neg, Mag: d.Mag, Exp: d.Exp} }

func dy(neg bool, exp int, mag ...uint32) api.Dyad { return api.Dyad{Neg: neg, Mag: mag, Exp: exp} }

// in is n in its form.
func in(n int) api.Dyad {
	d, _ := dyadOf(value{big.NewInt(int64(n)), 0})
	return d
}

// by is the ratio of two whole numbers.
func by(n, d int) api.Ratio { return api.Ratio{Num: in(n), Den: in(d)} }

// over is a Dyad by one.
func over(d api.Dyad) api.Ratio { return api.Ratio{Num: d, Den: two(0)} }

// power is 2^i as words, past any limit.
func power(i int) api.Nat {
	n := make(api.Nat, i/32+1)
	n[i/32] = 1 << (i % 32)
	return n
}

// ones is 2^i - 1 as words.
func ones(i int) api.Nat {
	n := slices.Repeat(api.Nat{full}, i/32)
	if i%32 > 0 {
		n = append(n, 1<<(i%32)-1)
	}
	return n
}

// shifted is n times 2^by as words, past any limit.
func shifted(n api.Nat, by uint) api.Nat {
	m := whole(n)
	return words(m.Lsh(m, by))
}

// scaled is n times by and some more, as words.
func scaled(n api.Nat, by *big.Int, more int64) api.Nat {
	m := whole(n)
	return words(m.Add(m.Mul(m, by), big.NewInt(more)))
}

// dice is a row of words that looks like none in particular, and is the same at each run.
type dice uint64

func (d *dice) roll() uint64 {
	*d = *d*6364136223846793005 + 1442695040888963407
	return uint64(*d >> 11)
}

func (d *dice) below(n int) int { return int(d.roll()>>8) % n }

func (d *dice) word() uint32 {
	at := []uint32{0, 0, 1, full, full - 1, 1 << 31, 1<<31 + 1}
	if i := d.below(2 * len(at)); i < len(at) {
		return at[i]
	}
	return uint32(d.roll() >> 5)
}

// nat is of so many words, be they nought or not.
func (d *dice) nat(n int) api.Nat {
	l := make(api.Nat, n)
	for i := range l {
		l[i] = d.word()
	}
	return l
}

// dyad is in its form or not, its Exp within reach on either side of nought.
func (d *dice) dyad(most, reach int) api.Dyad {
	return api.Dyad{Neg: d.below(2) == 1, Mag: d.nat(d.below(most + 1)), Exp: d.below(2*reach+1) - reach}
}

// ratio is one that may be, its Dyads in their form or not.
func (d *dice) ratio(most, reach int) api.Ratio {
	den := d.dyad(most, reach)
	den.Neg = false
	if whole(den.Mag).Sign() == 0 {
		den.Mag = api.Nat{uint32(1 + d.below(9)), 0}
	}
	return api.Ratio{Num: d.dyad(most, reach), Den: den}
}

// long is in its form, of MaxWords words, its highest bit a one or a nought.
func (d *dice) long() api.Nat {
	n := d.nat(api.MaxWords)
	n[0] |= 1
	n[api.MaxWords-1] |= 1 << (31 - d.below(2))
	return n
}

// some are small ones at the chapter's edges, in their form and not; all of them may be.
func some() []api.Dyad {
	return []api.Dyad{
		{}, {Neg: true}, {Exp: 7}, {Neg: true, Mag: api.Nat{0, 0}, Exp: math.MinInt},
		two(0), less(two(0)), dy(false, 0, 2), dy(true, -1, 2, 0), dy(false, 3, 3), dy(true, -2, 3), dy(false, 2, 1, 0, 0), dy(true, -1, 7),
		dy(false, -35, 0, 8, 0), dy(false, 0, full, full), dy(true, 5, full, full, full), dy(false, -64, 0, 0, 1), dy(true, 0, 5, 1<<21), dy(false, 40, full-1, full),
	}
}

// someRatios are of each with each above nought.
func someRatios() []api.Ratio {
	var l []api.Ratio
	for _, n := range some() {
		for _, d := range some() {
			if !d.Neg && whole(d.Mag).Sign() > 0 {
				l = append(l, api.Ratio{Num: n, Den: d})
			}
		}
	}
	return l
}

// great are above nought, at the limits, or stand for what is; all of them may be.
func great() []api.Dyad {
	return []api.Dyad{
		two(0), dy(false, 0, 3), two(api.MaxExp), two(-api.MaxExp), two(300000), {Mag: ones(limit)}, {Mag: ones(limit), Exp: api.MaxExp}, {Mag: ones(limit), Exp: -api.MaxExp},
		{Mag: shifted(ones(limit), 37), Exp: 5}, {Mag: append(power(9000*32), 0, 0), Exp: -288000}, dy(false, -api.MaxExp-2, 4), {Mag: append(api.Nat{1}, power(limit-33)...), Exp: -limit},
	}
}

// past may not be, for their words or for their Exps; all are above nought.
func past() []api.Dyad {
	return []api.Dyad{
		two(api.MaxExp + 1), two(-api.MaxExp - 1), dy(false, api.MaxExp, 2), dy(false, -api.MaxExp-3, 4), two(math.MaxInt), two(math.MinInt), dy(false, math.MaxInt, 0, 0, 6),
		{Mag: ones(limit + 1)}, {Mag: append(ones(limit+1), 0, 0)}, {Mag: shifted(ones(limit+1), 31), Exp: -4}, {Mag: ones(limit + 1), Exp: math.MinInt}, {Mag: shifted(ones(limit), 64), Exp: math.MaxInt},
	}
}

func noModes() []int { return []int{-1, 5, 6, -5, 256, 1 << 32, -1 << 32, math.MinInt, math.MaxInt} }

func sameBits(x, y float64) bool { return math.Float64bits(x) == math.Float64bits(y) }

func sameBits32(x, y float32) bool { return math.Float32bits(x) == math.Float32bits(y) }

// answers fails unless both, the number and the error, are just these.
func answers(t *testing.T, what string, x float64, e api.Errno, is float64, want api.Errno) {
	t.Helper()
	if !sameBits(x, is) || e != want {
		t.Errorf("%s: %x, error %d; want %x, error %d", what, x, e, is, want)
	}
}

func answers32(t *testing.T, what string, x float32, e api.Errno, is float32, want api.Errno) {
	t.Helper()
	if !sameBits32(x, is) || e != want {
		t.Errorf("%s: %x, error %d; want %x, error %d", what, x, e, is, want)
	}
}

// makes fails unless the answer is just this ratio, in these very forms, or this error and nothing beside it.
func makes(t *testing.T, what string, got api.Ratio, e api.Errno, want api.Ratio, wantE api.Errno) {
	t.Helper()
	if e != wantE || !sameRatio(got, want) {
		t.Errorf("%s: %s, error %d; want %s, error %d", what, told(got), e, told(want), wantE)
	}
}
