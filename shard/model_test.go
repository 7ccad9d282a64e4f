package shard

import (
	"bytes"
	"math"
	"math/big"
	"testing"

	"steelyard/api"
	"steelyard/bits"
	"steelyard/mean"
	"steelyard/moment"
	"steelyard/sums"
)

// book is what a shard must know, kept by other means: the sum in units of 2^-1074, the squares in units of 2^-2148.
type book struct {
	seen         api.Specials
	sum, squares *big.Int
	low, high    float64
}

func newBook(l ...float64) *book {
	b := &book{sum: new(big.Int), squares: new(big.Int), low: inf, high: -inf}
	for _, x := range l {
		b.add(x)
	}
	return b
}

// units is a finite number in units of 2^-1074.
func units(x float64) *big.Int {
	part, exp := math.Frexp(x)
	v := big.NewInt(int64(part * 0x1p53))
	if by := exp - 53 + 1074; by < 0 {
		return v.Quo(v, new(big.Int).Lsh(big.NewInt(1), uint(-by)))
	} else {
		return v.Lsh(v, uint(by))
	}
}

func (b *book) add(x float64) {
	b.seen.All++
	switch {
	case x != x:
		b.seen.NaN++
		return
	case x == inf:
		b.seen.Up++
	case x == -inf:
		b.seen.Down++
	case x == 0 && math.Signbit(x):
		b.seen.Minus++
	case x == 0:
		b.seen.Plus++
	default:
		v := units(x)
		b.sum.Add(b.sum, v)
		b.squares.Add(b.squares, new(big.Int).Mul(v, v))
	}
	b.reach(x, x)
}

// reach takes ends in: they are held against each other as Go does, and noughts by their signs.
func (b *book) reach(low, high float64) {
	if b.seen.All-b.seen.NaN == 1 {
		b.low, b.high = low, high
		return
	}
	if low < b.low || low == 0 && b.low == 0 && math.Signbit(low) {
		b.low = low
	}
	if high > b.high || high == 0 && b.high == 0 && !math.Signbit(high) {
		b.high = high
	}
}

func (b *book) merge(o *book) {
	had, has := b.seen.All > b.seen.NaN, o.seen.All > o.seen.NaN
	b.seen = api.Specials{
		NaN: b.seen.NaN + o.seen.NaN, Up: b.seen.Up + o.seen.Up, Down: b.seen.Down + o.seen.Down,
		Minus: b.seen.Minus + o.seen.Minus, Plus: b.seen.Plus + o.seen.Plus, All: b.seen.All + o.seen.All,
	}
	b.sum.Add(b.sum, o.sum)
	b.squares.Add(b.squares, o.squares)
	switch {
	case had && has:
		b.reach(o.low, o.high)
	case has:
		b.low, b.high = o.low, o.high
	}
}

func (b *book) layout() layout {
	n := b.seen
	l := layout{
		counts: [6]uint64{uint64(n.NaN), uint64(n.Up), uint64(n.Down), uint64(n.Minus), uint64(n.Plus), uint64(n.All)},
		sum:    rawOf(b.sum, -1074), squares: rawOf(b.squares, -2148),
	}
	if n.All > n.NaN {
		l.ends = between(b.low, b.high)
	}
	return l
}

// read is the book that tells what lawful bytes tell.
func read(t *testing.T, c []byte) *book {
	t.Helper()
	l, ok := parsed(c)
	if !ok {
		t.Fatalf("no layout: %v", c)
	}
	b := newBook()
	n := l.counts
	b.seen = api.Specials{NaN: int(n[0]), Up: int(n[1]), Down: int(n[2]), Minus: int(n[3]), Plus: int(n[4]), All: int(n[5])}
	b.sum, b.squares = l.sum.value(), l.squares.value()
	b.sum.Rsh(b.sum, 4096-1074)
	b.squares.Rsh(b.squares, 4096-2148)
	if l.sum.sign == 1 {
		b.sum.Neg(b.sum)
	}
	if l.ends != nil {
		b.low, b.high = math.Float64frombits(l.ends[0]), math.Float64frombits(l.ends[1])
	}
	return b
}

// rounded is num by den times 2^low, which is not nought, rounded once: as so many steps of where it lies, and what is left.
func rounded(num, den *big.Int, low, mode int) float64 {
	size := new(big.Int).Abs(num)
	step := max(size.BitLen()-den.BitLen()+low-53, -1074)
	steps, left := divided(size, den, low-step)
	if steps.BitLen() > 53 {
		step++
		steps, left = divided(size, den, low-step)
	}
	in, out := math.Ldexp(float64(steps.Uint64()), step), math.Ldexp(float64(steps.Uint64()+1), step)
	if in > greatest {
		in, left = greatest, 1
	}
	odd := steps.Bit(0) == 1
	x := in
	switch below := num.Sign() < 0; {
	case left == -2:
	case mode == api.Up && !below, mode == api.Down && below:
		x = out
	case (mode == api.Even || mode == api.Away) && left > 0:
		x = out
	case left == 0 && (mode == api.Away || mode == api.Even && odd):
		x = out
	}
	return math.Copysign(x, float64(num.Sign()))
}

// divided is size times 2^by, by den, rounded down, and what is left: -2 for nothing, else how it stands to a half.
func divided(size, den *big.Int, by int) (*big.Int, int) {
	over, under := new(big.Int).Set(size), new(big.Int).Set(den)
	if by > 0 {
		over.Lsh(over, uint(by))
	} else {
		under.Lsh(under, uint(-by))
	}
	q, r := new(big.Int).QuoRem(over, under, new(big.Int))
	if r.Sign() == 0 {
		return q, -2
	}
	return q, r.Lsh(r, 1).Cmp(under)
}

// ahead is what is told ahead of the finite ones' sum, as P21.2 says it.
func (b *book) ahead(mode int, p api.Policy) (x float64, e api.Errno, is bool) {
	s := b.seen
	switch {
	case mode < 0 || mode > 4 || p.NaN < 0 || p.NaN > 2 || p.Inf < 0 || p.Inf > 2:
		return 0, api.ErrArg, true
	case s.NaN > 0 && p.NaN == api.Refuse:
		return 0, api.ErrNaN, true
	case s.Up+s.Down > 0 && p.Inf == api.Refuse:
		return 0, api.ErrEndless, true
	case s.NaN > 0 && p.NaN == api.Carry, s.Up > 0 && s.Down > 0 && p.Inf == api.Carry:
		return hole, api.OK, true
	case s.Up > 0 && p.Inf == api.Carry:
		return inf, api.OK, true
	case s.Down > 0 && p.Inf == api.Carry:
		return -inf, api.OK, true
	}
	return 0, api.OK, false
}

func (b *book) finite() int { return b.seen.All - b.seen.NaN - b.seen.Up - b.seen.Down }

// nought is the sign of a sum that is nought.
func (b *book) nought(mode int) float64 {
	f := b.finite()
	if f > 0 && (b.seen.Minus == f || b.seen.Plus != f && mode == api.Down) {
		return noughtBelow
	}
	return 0
}

// by is the sum by n; a mean is refused of none.
func (b *book) by(n int, isMean bool, mode int, p api.Policy) told {
	x, e, is := b.ahead(mode, p)
	switch {
	case is:
		return tell(x, e)
	case isMean && n == 0:
		return tell(0, api.ErrNone)
	case b.sum.Sign() == 0:
		return tell(b.nought(mode), api.OK)
	}
	return tell(rounded(b.sum, big.NewInt(int64(n)), -1074, mode), api.OK)
}

func (b *book) spread(less, mode int, p api.Policy) told {
	x, e, is := b.ahead(mode, p)
	f := b.finite()
	switch {
	case e != api.OK:
		return tell(0, e)
	case is:
		return tell(x-x, api.OK)
	case f <= less:
		return tell(0, api.ErrNone)
	}
	v := new(big.Int).Mul(big.NewInt(int64(f)), b.squares)
	v.Sub(v, new(big.Int).Mul(b.sum, b.sum))
	if v.Sign() == 0 {
		return tell(0, api.OK)
	}
	den := new(big.Int).Mul(big.NewInt(int64(f)), big.NewInt(int64(f-less)))
	return tell(rounded(v, den, -2148, mode), api.OK)
}

func (b *book) end(x float64) told {
	switch {
	case b.seen.All == 0:
		return tell(0, api.ErrNone)
	case b.seen.All == b.seen.NaN:
		return tell(hole, api.OK)
	}
	return tell(x, api.OK)
}

// keeps fails unless a shard tells what its book does, by every mode and every policy, and has its bytes.
func keeps(t *testing.T, what string, s *Shard, b *book) {
	t.Helper()
	held := func(name string, got, is told) {
		t.Helper()
		// Which NaN it is that subtraction makes is the machine's business; the shard's is the one that is answered.
		if is.e == api.OK && is.bits&^signBit > endless {
			is.bits = answered
		}
		if got != is {
			t.Errorf("%s: %s %x; want %x", what, name, got, is)
		}
	}
	if s.Count() != b.seen.All {
		t.Errorf("%s: Count %d; want %d", what, s.Count(), b.seen.All)
	}
	if got, is := s.Encode(), b.layout().bytes(); !bytes.Equal(got, is) {
		t.Errorf("%s: Encode %v; want %v", what, got, is)
	}
	held("Least", tell(s.Least()), b.end(b.low))
	held("Most", tell(s.Most()), b.end(b.high))
	for mode := range 5 {
		for _, p := range policies() {
			held("Sum", tell(s.Sum(mode, p)), b.by(1, false, mode, p))
			held("Mean", tell(s.Mean(mode, p)), b.by(b.finite(), true, mode, p))
			for less := range 2 {
				held("Var", tell(s.Var(less, mode, p)), b.spread(less, mode, p))
			}
		}
	}
}

// outdone is what Least (side -1) or Most (side 1) must answer, by going through the list.
func outdone(l []float64, side int) told {
	if len(l) == 0 {
		return tell(0, api.ErrNone)
	}
	best := hole
	for _, x := range l {
		if x == x && (best != best || bits.Order(x, best) == side) {
			best = x
		}
	}
	return tell(best, api.OK)
}

// asks holds Sum, Mean, Var against what the layers below answer of the list.
func asks(t *testing.T, s *Shard, l []float64, mode int, p api.Policy, less ...int) {
	t.Helper()
	held := func(name string, got, is told) {
		t.Helper()
		if got != is {
			t.Errorf("%s of %x by %d, %v: %x; want %x", name, brief(l), mode, p, got, is)
		}
	}
	held("Sum", tell(s.Sum(mode, p)), tell(sums.Exact(l, mode, p)))
	held("Mean", tell(s.Mean(mode, p)), tell(mean.Mean(l, mode, p)))
	for _, n := range less {
		held("Var", tell(s.Var(n, mode, p)), tell(moment.Var(l, n, mode, p)))
	}
}

// tells holds all that a shard tells against the list that it has: by every mode and every policy.
func tells(t *testing.T, s *Shard, l []float64) {
	t.Helper()
	if s.Count() != len(l) {
		t.Errorf("Count %d; want %d", s.Count(), len(l))
	}
	if got, is := tell(s.Least()), outdone(l, -1); got != is {
		t.Errorf("Least of %x: %x; want %x", brief(l), got, is)
	}
	if got, is := tell(s.Most()), outdone(l, 1); got != is {
		t.Errorf("Most of %x: %x; want %x", brief(l), got, is)
	}
	for mode := range 5 {
		for _, p := range policies() {
			asks(t, s, l, mode, p, 0, 1)
		}
	}
	if got, is := s.Encode(), newBook(l...).layout().bytes(); !bytes.Equal(got, is) {
		t.Errorf("Encode of %x: %v; want %v", brief(l), got, is)
	}
}
