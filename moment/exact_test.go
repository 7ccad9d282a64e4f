package moment

import (
	"math"
	"math/big"
	"slices"

	"steelyard/api"
)

// value is m times two to the power of exp, by the library's own whole numbers.
type value struct {
	m   *big.Int
	exp int
}

// of is a finite number, taken apart by its bits.
func of(x float64) value {
	b := hex(x)
	v := worth(b &^ (1 << 63))
	if b>>63 == 1 {
		v.m.Neg(v.m)
	}
	return v
}

// worth is the size that the bits of a number without its sign stand for; those of the infinity stand for the number that would follow the greatest.
func worth(b uint64) value {
	e, f := int(b>>52), b&(1<<52-1)
	if e > 0 {
		f, e = f|1<<52, e-1
	}
	return value{new(big.Int).SetUint64(f), e - 1074}
}

// whole is a whole number.
func whole(n int) value { return value{big.NewInt(int64(n)), 0} }

// written writes v as a whole number times two to the power of exp, which is not above its own.
func written(v value, exp int) *big.Int { return new(big.Int).Lsh(v.m, uint(v.exp-exp)) }

func (v value) times(o value) value { return value{new(big.Int).Mul(v.m, o.m), v.exp + o.exp} }

func (v value) power(k int) value {
	p := whole(1)
	for range k {
		p = p.times(v)
	}
	return p
}

func (v value) less() value { return value{new(big.Int).Neg(v.m), v.exp} }

func (v value) size() value { return value{new(big.Int).Abs(v.m), v.exp} }

func (v value) sign() int { return v.m.Sign() }

func (v value) plus(o value) value {
	if v.sign() == 0 {
		return o
	}
	if o.sign() == 0 {
		return v
	}
	exp := min(v.exp, o.exp)
	m := written(v, exp)
	return value{m.Add(m, written(o, exp)), exp}
}

// stands is how v stands to o: -1, 0, 1.
func (v value) stands(o value) int {
	s := v.sign()
	if s == 0 || s != o.sign() {
		return v.m.Cmp(o.m)
	}
	if x, y := v.m.BitLen()+v.exp, o.m.BitLen()+o.exp; x < y {
		return -s
	} else if x > y {
		return s
	}
	exp := min(v.exp, o.exp)
	return written(v, exp).Cmp(written(o, exp))
}

// middle is the one between what bits stand for and what follows it.
func middle(b uint64) value {
	v := worth(b).plus(worth(b + 1))
	return value{v.m, v.exp - 1}
}

// rounded is what DOC.md's words for rounding once say by each mode of a value that is no nought, of which one tells how its size stands to another; the neighbours are looked up among all numbers.
func rounded(neg bool, stands func(size value) int) [5]float64 {
	const endless = 0x7FF << 52
	in, out := uint64(0), uint64(endless)
	if stands(worth(endless)) >= 0 {
		in = endless - 1
	}
	for out-in > 1 {
		if mid := in + (out-in)/2; stands(worth(mid)) >= 0 {
			in = mid
		} else {
			out = mid
		}
	}
	pick := [5]uint64{api.Even: in, api.Zero: in, api.Up: out, api.Down: in, api.Away: in}
	if neg {
		pick[api.Up], pick[api.Down] = in, out
	}
	switch half := stands(middle(in)); {
	case stands(worth(in)) == 0:
		pick = [5]uint64{in, in, in, in, in}
	case half > 0:
		pick[api.Even], pick[api.Away] = out, out
	case half == 0:
		pick[api.Even], pick[api.Away] = in+in%2, out
	}
	var all [5]float64
	for mode, b := range pick {
		all[mode] = math.Float64frombits(b)
		if neg {
			all[mode] = turned(all[mode])
		}
	}
	return all
}

// ratioOnce is num by den, which is above nought, by each mode; nought is +0.
func ratioOnce(num, den value) [5]float64 {
	if num.sign() == 0 {
		return [5]float64{}
	}
	n := num.size()
	return rounded(num.sign() < 0, func(size value) int { return n.stands(size.times(den)) })
}

// rootOnce is num by the root of den, which is above nought, by each mode; nought is +0.
func rootOnce(num, den value) [5]float64 {
	if num.sign() == 0 {
		return [5]float64{}
	}
	square := num.times(num)
	return rounded(num.sign() < 0, func(size value) int { return square.stands(size.times(size).times(den)) })
}

// sumOf is the exact sum of finite numbers.
func sumOf(l []float64) value {
	s := of(0)
	for _, x := range l {
		s = s.plus(of(x))
	}
	return s
}

// away is, of each number, n times how far it lies from the mean.
func away(l []float64) []value {
	s, n := sumOf(l).less(), whole(len(l))
	out := make([]value, len(l))
	for i, x := range l {
		out[i] = of(x).times(n).plus(s)
	}
	return out
}

// together is the sum of the products of what stands at one place.
func together(a, b []value) value {
	s := of(0)
	for i, v := range a {
		s = s.plus(v.times(b[i]))
	}
	return s
}

// share is n^2 (n - less): what n^2 times a sum about the mean is divided by.
func share(n, less int) value { return whole(n).times(whole(n)).times(whole(n - less)) }

// coBy is what P14.3 says of finite numbers, as many of either and more than less, by each mode.
func coBy(a, b []float64, less int) [5]float64 {
	return ratioOnce(together(away(a), away(b)), share(len(a), less))
}

// linkBy is what P14.4 says of finite numbers, as many of either, by each mode; false, if one of the two lists doesn't vary.
func linkBy(a, b []float64) ([5]float64, bool) {
	x, y := away(a), away(b)
	squares := together(x, x).times(together(y, y))
	if squares.sign() == 0 {
		return [5]float64{}, false
	}
	return rootOnce(together(x, y), squares), true
}

// centralBy is what P14.2 says of some finite numbers, by each mode.
func centralBy(l []float64, k int) [5]float64 {
	s := of(0)
	for _, v := range away(l) {
		s = s.plus(v.power(k))
	}
	return ratioOnce(s, whole(len(l)).power(k+1))
}

// meant is a list, told apart and worked out by the library.
type meant struct {
	odd, endless bool
	n            int           // how many finite ones there are
	vars, stds   [2][5]float64 // by less and by each mode, where n is above less
}

func meantBy(l []float64) meant {
	m := meant{odd: slices.ContainsFunc(l, math.IsNaN), endless: slices.Contains(l, inf) || slices.Contains(l, -inf)}
	var finite []float64
	for _, x := range l {
		if x-x == 0 {
			finite = append(finite, x)
		}
	}
	m.n = len(finite)
	apart := away(finite)
	squares := together(apart, apart)
	for less := range min(2, m.n) {
		by := share(m.n, less)
		m.vars[less] = ratioOnce(squares, by)
		// The root of p by q is p by the root of p q.
		m.stds[less] = rootOnce(squares, squares.times(by))
	}
	return m
}

// right is what P14.1 says of it, of one of the two tables.
func (m meant) right(table [2][5]float64, less, mode int, p api.Policy) (float64, api.Errno) {
	switch {
	case m.odd && p.NaN == api.Refuse:
		return 0, api.ErrNaN
	case m.endless && p.Inf == api.Refuse:
		return 0, api.ErrEndless
	case m.odd && p.NaN == api.Carry, m.endless && p.Inf == api.Carry:
		return hole, api.OK
	case m.n <= less:
		return 0, api.ErrNone
	}
	return table[less][mode], api.OK
}

// wordsOf is a Nat by the library's own whole numbers.
func wordsOf(n api.Nat) *big.Int {
	b := make([]byte, 4*len(n))
	for i, w := range n {
		for j := range 4 {
			b[len(b)-1-4*i-j] = byte(w >> (8 * j))
		}
	}
	return new(big.Int).SetBytes(b)
}

// valueOf is a Dyad's value; false, if its form may not be by chapter 3's words. Its Exp may lie at the ends of int.
func valueOf(d api.Dyad) (value, bool) {
	m := wordsOf(d.Mag)
	if m.Sign() == 0 {
		return value{m, 0}, true
	}
	low := int64(m.TrailingZeroBits())
	exp := new(big.Int).Add(big.NewInt(int64(d.Exp)), big.NewInt(low))
	m.Rsh(m, uint(low))
	if d.Neg {
		m.Neg(m)
	}
	if !exp.IsInt64() {
		return value{}, false
	}
	v := value{m, int(exp.Int64())}
	return v, v.mayBe()
}

// mayBe holds of the value of a form that may be.
func (v value) mayBe() bool {
	if v.sign() == 0 {
		return true
	}
	low := int(v.m.TrailingZeroBits())
	return v.m.BitLen()-low <= 32*api.MaxWords && v.exp+low <= api.MaxExp && v.exp+low >= -api.MaxExp
}

// odd is v with what is even in its whole number told by its power of two.
func (v value) odd() value {
	low := v.m.TrailingZeroBits()
	return value{new(big.Int).Rsh(v.m, low), v.exp + int(low)}
}

// apartBy is a - b of forms that may be, as chapter 3 says of Sub; false where it says ErrLong.
func apartBy(a, b value) (value, bool) {
	if a.sign() != 0 && b.sign() != 0 {
		a, b = a.odd(), b.odd()
		long := func(v value) bool { return v.m.BitLen()+v.exp-min(a.exp, b.exp) > 32*api.MaxWords }
		if long(a) || long(b) {
			return value{}, false
		}
	}
	v := a.plus(b.less())
	return v, v.mayBe()
}

// ofBy is what P14.5 says, by each mode, where mode, n and less may be.
func ofBy(n int, sum, squares api.Dyad, less int) ([5]float64, api.Errno) {
	s, may := valueOf(sum)
	q, too := valueOf(squares)
	if !may || !too {
		return [5]float64{}, api.ErrLong
	}
	has, takes := whole(n).times(q), s.times(s)
	if !has.mayBe() || !takes.mayBe() {
		return [5]float64{}, api.ErrLong
	}
	apart, may := apartBy(has, takes)
	switch {
	case !may:
		return [5]float64{}, api.ErrLong
	case n <= less:
		return [5]float64{}, api.ErrNone
	}
	return ratioOnce(apart, whole(n).times(whole(n-less))), api.OK
}
