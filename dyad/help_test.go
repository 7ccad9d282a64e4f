package dyad

import (
	"fmt"
	"math"
	"math/big"
	"slices"
	"testing"

	"steelyard/api"
)

const (
	full  = 1<<32 - 1
	limit = 32 * api.MaxWords
)

// value is m times two to the power of exp, by the library's own whole numbers; exp is one of these too, as it may pass the ends of int.
type value struct {
	m, exp *big.Int
}

// valueOf is a Dyad's value as the chapter's words give it, whatever stands in it.
func valueOf(d api.Dyad) value {
	b := make([]byte, 4*len(d.Mag))
	for i, w := range d.Mag {
		for j := range 4 {
			b[len(b)-1-4*i-j] = byte(w >> (8 * j))
		}
	}
	m := new(big.Int).SetBytes(b)
	if d.Neg {
		m.Neg(m)
	}
	return value{m, big.NewInt(int64(d.Exp))}
}

// words are those of |m|.
func words(m *big.Int) api.Nat {
	var n api.Nat
	b := m.Bytes()
	for i := range b {
		if i%4 == 0 {
			n = append(n, 0)
		}
		n[i/4] |= uint32(b[len(b)-1-i]) << (8 * (i % 4))
	}
	return n
}

// formed is the form of a value, or ErrLong.
func formed(v value) (api.Dyad, api.Errno) {
	if v.m.Sign() == 0 {
		return api.Dyad{}, api.OK
	}
	low := v.m.TrailingZeroBits()
	m := new(big.Int).Rsh(new(big.Int).Abs(v.m), low)
	exp := new(big.Int).Add(v.exp, big.NewInt(int64(low)))
	if m.BitLen() > limit || exp.CmpAbs(big.NewInt(api.MaxExp)) > 0 {
		return api.Dyad{}, api.ErrLong
	}
	return api.Dyad{Neg: v.m.Sign() < 0, Mag: words(m), Exp: int(exp.Int64())}, api.OK
}

// level writes a as a whole number times two to the power of exp, which is not above its own.
func level(a value, exp *big.Int) *big.Int {
	up := new(big.Int).Sub(a.exp, exp)
	return new(big.Int).Lsh(a.m, uint(up.Uint64()))
}

func same(a, b api.Dyad) bool {
	return a.Neg == b.Neg && a.Exp == b.Exp && slices.Equal(a.Mag, b.Mag)
}

// brief keeps failures of long ones readable.
func brief(d api.Dyad) string {
	if len(d.Mag) > 8 {
		return fmt.Sprintf("{%t, %d words: %v .. %v, %d}", d.Neg, len(d.Mag), d.Mag[:3], d.Mag[len(d.Mag)-3:], d.Exp)
	}
	return fmt.Sprintf("{%t, %v, %d}", d.Neg, d.Mag, d.Exp)
}

// answers fails unless the answer is just that form, or that error and nothing beside it.
func answers(t *testing.T, what string, got api.Dyad, e api.Errno, want api.Dyad, wantE api.Errno) {
	t.Helper()
	if e != wantE || !same(got, want) {
		t.Errorf("%s: %s, error %d; want %s, error %d", what, brief(got), e, brief(want), wantE)
	}
}

// two is 2^exp in its form, be it one that may be or not.
func two(exp int) api.Dyad { return api.Dyad{Mag: api.Nat{1}, Exp: exp} }

// less is d with the other sign.
func less(d api.Dyad) api.Dyad { return api.Dyad{Neg: !d.Neg, Mag: d.Mag, Exp: d.Exp} }

func dy(neg bool, exp int, mag ...uint32) api.Dyad { return api.Dyad{Neg: neg, Mag: mag, Exp: exp} }

// power is 2^i as words, past any limit.
func power(i int) api.Nat {
	n := make(api.Nat, i/32+1)
	n[i/32] = 1 << (i % 32)
	return n
}

// ones is 2^i - 1 as words.
func ones(i int) api.Nat {
	n := slices.Repeat(api.Nat{full}, i/32)
	if i%32 > 0 {
		n = append(n, 1<<(i%32)-1)
	}
	return n
}

// shifted is n times 2^by as words, past any limit.
func shifted(n api.Nat, by uint) api.Nat {
	m := valueOf(api.Dyad{Mag: n}).m
	return words(m.Lsh(m, by))
}

// dice is a row of words that looks like none in particular, and is the same at each run.
type dice uint64

func (d *dice) roll() uint64 {
	*d = *d*6364136223846793005 + 1442695040888963407
	return uint64(*d >> 11)
}

func (d *dice) below(n int) int { return int(d.roll()>>8) % n }

func (d *dice) word() uint32 {
	at := []uint32{0, 0, 1, full, full - 1, 1 << 31, 1<<31 + 1}
	if i := d.below(2 * len(at)); i < len(at) {
		return at[i]
	}
	return uint32(d.roll() >> 5)
}

// dyad is in its form or not, its Exp within reach on either side of nought.
func (d *dice) dyad(most, reach int) api.Dyad {
	n := make(api.Nat, d.below(most+1))
	for i := range n {
		n[i] = d.word()
	}
	return api.Dyad{Neg: d.below(2) == 1, Mag: n, Exp: d.below(2*reach+1) - reach}
}

// some are small ones at the chapter's edges, in their form and not; all of them may be.
func some() []api.Dyad {
	l := []api.Dyad{
		{}, {Neg: true}, {Exp: 7}, {Neg: true, Exp: math.MaxInt}, {Mag: api.Nat{0}, Exp: math.MinInt}, {Neg: true, Mag: api.Nat{0, 0}, Exp: -5},
		two(0), less(two(0)), dy(false, 0, 2), dy(true, -1, 2, 0), dy(false, 3, 3), dy(true, -2, 3), dy(false, 2, 1, 0, 0),
		dy(false, -35, 0, 8, 0), dy(true, 0, full), dy(false, 0, full, full), dy(true, 5, full, full, full), dy(false, -64, 0, 0, 1),
		dy(false, -1, 1<<31), dy(true, 0, 0, 1<<31), dy(false, 31, 1), dy(true, 32, 1), dy(false, 33, 5), dy(false, 0, 1, 1<<21), dy(false, 40, full-1, full),
	}
	d := dice(3)
	for range 25 {
		l = append(l, d.dyad(5, 80))
	}
	return l
}

// great are at the limits, or stand for what is; all of them may be.
func great() []api.Dyad {
	return []api.Dyad{
		two(api.MaxExp), less(two(-api.MaxExp)), two(300000), less(two(300000)), two(-300000),
		{Mag: ones(limit)}, {Neg: true, Mag: ones(limit), Exp: api.MaxExp}, {Mag: ones(limit), Exp: -api.MaxExp},
		{Mag: shifted(ones(limit), 37), Exp: 5}, {Mag: append(power(9000*32), 0, 0), Exp: -288000}, {Neg: true, Mag: power(limit + 5), Exp: -limit},
		{Mag: append(power(limit-1), 0), Exp: 1 - limit}, {Mag: shifted(ones(limit-1), 33), Exp: -api.MaxExp - 33},
		dy(false, -api.MaxExp-2, 4), dy(true, api.MaxExp-1, 2), {Mag: append(api.Nat{1}, power(limit-33)...), Exp: 2},
	}
}

// past may not be, for their words or for their Exps.
func past() []api.Dyad {
	return []api.Dyad{
		two(api.MaxExp + 1), less(two(-api.MaxExp - 1)), dy(false, api.MaxExp, 2), dy(true, -api.MaxExp-3, 4), dy(false, -api.MaxExp-1, 3),
		two(math.MaxInt), less(two(math.MaxInt)), two(math.MinInt), less(two(math.MinInt)), dy(false, math.MaxInt-1, 2), dy(false, math.MaxInt, 0, 0, 6),
		dy(true, math.MinInt, 0, 0, 6), {Mag: ones(limit + 1)}, {Neg: true, Mag: append(ones(limit+1), 0, 0)}, {Mag: shifted(ones(limit+1), 31), Exp: -4},
		{Mag: append(api.Nat{1}, power(limit-32)...)}, {Mag: ones(limit + 1), Exp: math.MinInt}, {Neg: true, Mag: shifted(ones(limit), 64), Exp: math.MaxInt},
	}
}
