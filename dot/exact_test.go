package dot

import (
	"math"
	"math/big"
	"slices"

	"steelyard/api"
)

// value is m times two to the power of exp, by the library's own whole numbers.
type value struct {
	m   *big.Int
	exp int
}

// of is a finite number, taken apart by its bits.
func of(x float64) value {
	b := hex(x)
	v := worth(b &^ (1 << 63))
	if b>>63 == 1 {
		v.m.Neg(v.m)
	}
	return v
}

// worth is the size that the bits of a number without its sign stand for; those of the infinity stand for the number that would follow the greatest.
func worth(b uint64) value {
	e, f := int(b>>52), b&(1<<52-1)
	if e > 0 {
		f, e = f|1<<52, e-1
	}
	return value{new(big.Int).SetUint64(f), e - 1074}
}

// level writes v as a whole number times two to the power of exp, which is not above its own.
func level(v value, exp int) *big.Int { return new(big.Int).Lsh(v.m, uint(v.exp-exp)) }

func (v value) times(o value) value { return value{new(big.Int).Mul(v.m, o.m), v.exp + o.exp} }

func (v value) plus(o value) value {
	if v.m.Sign() == 0 {
		return o
	}
	if o.m.Sign() == 0 {
		return v
	}
	exp := min(v.exp, o.exp)
	m := level(v, exp)
	return value{m.Add(m, level(o, exp)), exp}
}

func (v value) less(o value) value { return v.plus(value{new(big.Int).Neg(o.m), o.exp}) }

// stands is how v stands to o: -1, 0, 1.
func (v value) stands(o value) int {
	s := v.m.Sign()
	if s == 0 || s != o.m.Sign() {
		return v.m.Cmp(o.m)
	}
	if x, y := v.m.BitLen()+v.exp, o.m.BitLen()+o.exp; x < y {
		return -s
	} else if x > y {
		return s
	}
	exp := min(v.exp, o.exp)
	return level(v, exp).Cmp(level(o, exp))
}

// middle is the one between what bits stand for and what follows it.
func middle(b uint64) value {
	v := worth(b).plus(worth(b + 1))
	return value{v.m, v.exp - 1}
}

// rounded is what DOC.md's words for rounding once say by each mode of a value that is no nought, of which one tells how its size stands to another; the neighbours are looked up among all numbers.
func rounded(neg bool, stands func(size value) int) [5]float64 {
	const endless = 0x7FF << 52
	in, out := uint64(0), uint64(endless)
	if stands(worth(endless)) >= 0 {
		in = endless - 1
	}
	for out-in > 1 {
		if mid := in + (out-in)/2; stands(worth(mid)) >= 0 {
			in = mid
		} else {
			out = mid
		}
	}
	pick := [5]uint64{api.Even: in, api.Zero: in, api.Up: out, api.Down: in, api.Away: in}
	if neg {
		pick[api.Up], pick[api.Down] = in, out
	}
	switch half := stands(middle(in)); {
	case stands(worth(in)) == 0:
		pick = [5]uint64{in, in, in, in, in}
	case half > 0:
		pick[api.Even], pick[api.Away] = out, out
	case half == 0:
		pick[api.Even], pick[api.Away] = in+in%2, out
	}
	var all [5]float64
	for mode, b := range pick {
		all[mode] = math.Float64frombits(b)
		if neg {
			all[mode] = turned(all[mode])
		}
	}
	return all
}

// once is a value by each mode; nought is +0.
func once(v value) [5]float64 {
	if v.m.Sign() == 0 {
		return [5]float64{}
	}
	size := value{new(big.Int).Abs(v.m), v.exp}
	return rounded(v.m.Sign() < 0, size.stands)
}

// rootOnce is the root of a value by each mode; squares alone are held against it.
func rootOnce(v value) [5]float64 {
	if v.m.Sign() == 0 {
		return [5]float64{}
	}
	return rounded(false, func(size value) int { return v.stands(size.times(size)) })
}

// sort is what Go's own * makes of a product, where numbers that are finite and no nought stand as ones, so that none is too small or too great.
func sort(x, y float64) float64 {
	one := func(x float64) float64 {
		if x != x || x-x != 0 || x == 0 {
			return x
		}
		return math.Copysign(1, x)
	}
	return one(x) * one(y)
}

// dotted is a pair of lists, its products told apart and added up by the library.
type dotted struct {
	sorts []float64
	exact value
	plain [5]float64 // the exact sum by each mode
}

func dotOf(a, b []float64) dotted {
	d := dotted{exact: of(0)}
	for i, x := range a {
		s := sort(x, b[i])
		d.sorts = append(d.sorts, s)
		if s == 1 || s == -1 {
			d.exact = d.exact.plus(of(x).times(of(b[i])))
		}
	}
	d.plain = once(d.exact)
	return d
}

// right is what P12.1 says of it.
func (d dotted) right(mode int, p api.Policy) (float64, api.Errno) {
	any := func(is func(x float64) bool) bool { return slices.ContainsFunc(d.sorts, is) }
	odd := any(func(x float64) bool { return x != x })
	up, down := slices.Contains(d.sorts, inf), slices.Contains(d.sorts, -inf)
	switch {
	case odd && p.NaN == api.Refuse:
		return 0, api.ErrNaN
	case (up || down) && p.Inf == api.Refuse:
		return 0, api.ErrEndless
	case odd && p.NaN == api.Carry, up && down && p.Inf == api.Carry:
		return hole, api.OK
	case up && p.Inf == api.Carry:
		return inf, api.OK
	case down && p.Inf == api.Carry:
		return -inf, api.OK
	case d.exact.m.Sign() != 0:
		return d.plain[mode], api.OK
	}
	return d.nought(mode), api.OK
}

// nought is what chapter 6 says of a sum whose finite things come to nought.
func (d dotted) nought(mode int) float64 {
	finite := slices.DeleteFunc(slices.Clone(d.sorts), func(x float64) bool { return x-x != 0 })
	other := func(nought float64) bool {
		return slices.ContainsFunc(finite, func(x float64) bool { return !sameBits(x, nought) })
	}
	if len(finite) > 0 && (!other(noughtBelow) || other(0) && mode == api.Down) {
		return noughtBelow
	}
	return 0
}

// normOf is what P12.2 says, by each mode.
func normOf(a []float64) [5]float64 {
	switch {
	case slices.ContainsFunc(a, math.IsNaN):
		return [5]float64{hole, hole, hole, hole, hole}
	case slices.Contains(a, inf) || slices.Contains(a, -inf):
		return [5]float64{inf, inf, inf, inf, inf}
	}
	return rootOnce(squares(a))
}

// squares is the exact sum of them.
func squares(a []float64) value {
	s := of(0)
	for _, x := range a {
		s = s.plus(of(x).times(of(x)))
	}
	return s
}

// distanceOf is what P12.3 says, by each mode.
func distanceOf(a, b []float64) [5]float64 {
	endless, s := false, of(0)
	for i, x := range a {
		y := b[i]
		if x != x || y != y || math.IsInf(x, 0) && x == y {
			return [5]float64{hole, hole, hole, hole, hole}
		}
		if math.IsInf(x, 0) || math.IsInf(y, 0) {
			endless = true
		} else {
			apart := of(x).less(of(y))
			s = s.plus(apart.times(apart))
		}
	}
	if endless {
		return [5]float64{inf, inf, inf, inf, inf}
	}
	return rootOnce(s)
}

// polyOf is what P12.4 says of finite numbers, by each mode, term by term; its exact value, too.
func polyOf(c []float64, x float64) ([5]float64, value) {
	s, power := of(0), of(1)
	for _, n := range c {
		s = s.plus(of(n).times(power))
		power = power.times(of(x))
	}
	return once(s), s
}
