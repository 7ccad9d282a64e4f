package mean

import (
	"cmp"
	"math"
	"math/big"
	"slices"

	"steelyard/api"
)

// value is m times two to the power of exp, by the library's own whole numbers.
type value struct {
	m   *big.Int
	exp int
}

// of is a finite number, taken apart by its bits.
func of(x float64) value {
	b := hex(x)
	v := worth(b &^ (1 << 63))
	if b>>63 == 1 {
		v.m.Neg(v.m)
	}
	return v
}

// worth is the size that the bits of a number without its sign stand for; those of the infinity stand for the number that would follow the greatest.
func worth(b uint64) value {
	e, f := int(b>>52), b&(1<<52-1)
	if e > 0 {
		f, e = f|1<<52, e-1
	}
	return value{new(big.Int).SetUint64(f), e - 1074}
}

// written writes v as a whole number times two to the power of exp, which is not above its own.
func written(v value, exp int) *big.Int { return new(big.Int).Lsh(v.m, uint(v.exp-exp)) }

func (v value) times(o value) value { return value{new(big.Int).Mul(v.m, o.m), v.exp + o.exp} }

func (v value) plus(o value) value {
	if v.m.Sign() == 0 {
		return o
	}
	if o.m.Sign() == 0 {
		return v
	}
	exp := min(v.exp, o.exp)
	m := written(v, exp)
	return value{m.Add(m, written(o, exp)), exp}
}

// stands is how v stands to o: -1, 0, 1.
func (v value) stands(o value) int {
	s := v.m.Sign()
	if s == 0 || s != o.m.Sign() {
		return v.m.Cmp(o.m)
	}
	if x, y := v.m.BitLen()+v.exp, o.m.BitLen()+o.exp; x < y {
		return -s
	} else if x > y {
		return s
	}
	exp := min(v.exp, o.exp)
	return written(v, exp).Cmp(written(o, exp))
}

// middle is the one between what bits stand for and what follows it.
func middle(b uint64) value {
	v := worth(b).plus(worth(b + 1))
	return value{v.m, v.exp - 1}
}

// rounded is what DOC.md's words for rounding once say by each mode of a value that is no nought, of which one tells how its size stands to another; the neighbours are looked up among all numbers.
func rounded(neg bool, stands func(size value) int) [5]float64 {
	const endless = 0x7FF << 52
	in, out := uint64(0), uint64(endless)
	if stands(worth(endless)) >= 0 {
		in = endless - 1
	}
	for out-in > 1 {
		if mid := in + (out-in)/2; stands(worth(mid)) >= 0 {
			in = mid
		} else {
			out = mid
		}
	}
	pick := [5]uint64{api.Even: in, api.Zero: in, api.Up: out, api.Down: in, api.Away: in}
	if neg {
		pick[api.Up], pick[api.Down] = in, out
	}
	switch half := stands(middle(in)); {
	case stands(worth(in)) == 0:
		pick = [5]uint64{in, in, in, in, in}
	case half > 0:
		pick[api.Even], pick[api.Away] = out, out
	case half == 0:
		pick[api.Even], pick[api.Away] = in+in%2, out
	}
	var all [5]float64
	for mode, b := range pick {
		all[mode] = math.Float64frombits(b)
		if neg {
			all[mode] = turned(all[mode])
		}
	}
	return all
}

// ratioOnce is num by den, which is no nought, by each mode; nought is +0.
func ratioOnce(num, den value) [5]float64 {
	if num.m.Sign() == 0 {
		return [5]float64{}
	}
	n, d := value{new(big.Int).Abs(num.m), num.exp}, value{new(big.Int).Abs(den.m), den.exp}
	return rounded(num.m.Sign() != den.m.Sign(), func(size value) int { return n.stands(size.times(d)) })
}

// whole is a whole number.
func whole(n int) value { return value{big.NewInt(int64(n)), 0} }

// total is the exact sum of finite numbers.
func total(l []float64) value {
	s := of(0)
	for _, x := range l {
		s = s.plus(of(x))
	}
	return s
}

// meant is a list, told apart and added up by the library.
type meant struct {
	odd, up, down bool
	finite        []float64
	exact         value      // the finite ones' sum
	means         [5]float64 // their mean by each mode; nought is +0
}

func meantBy(l []float64) meant {
	m := meant{odd: slices.ContainsFunc(l, math.IsNaN), up: slices.Contains(l, inf), down: slices.Contains(l, -inf)}
	for _, x := range l {
		if x-x == 0 {
			m.finite = append(m.finite, x)
		}
	}
	m.exact = total(m.finite)
	m.means = ratioOnce(m.exact, whole(len(m.finite)))
	return m
}

// right is what P13.1 says of it.
func (m meant) right(mode int, p api.Policy) (float64, api.Errno) {
	switch {
	case m.odd && p.NaN == api.Refuse:
		return 0, api.ErrNaN
	case (m.up || m.down) && p.Inf == api.Refuse:
		return 0, api.ErrEndless
	case m.odd && p.NaN == api.Carry, m.up && m.down && p.Inf == api.Carry:
		return hole, api.OK
	case m.up && p.Inf == api.Carry:
		return inf, api.OK
	case m.down && p.Inf == api.Carry:
		return -inf, api.OK
	case len(m.finite) == 0:
		return 0, api.ErrNone
	case m.exact.m.Sign() == 0:
		return m.nought(mode), api.OK
	}
	return m.means[mode], api.OK
}

// nought is what chapter 6 says of a sum of some finite numbers that come to nought.
func (m meant) nought(mode int) float64 {
	other := func(nought float64) bool {
		return slices.ContainsFunc(m.finite, func(x float64) bool { return !sameBits(x, nought) })
	}
	if !other(noughtBelow) || other(0) && mode == api.Down {
		return noughtBelow
	}
	return 0
}

// weightedBy is what P13.2 says of finite numbers, as many as weights that don't come to nought, by each mode.
func weightedBy(l, w []float64) [5]float64 {
	s := of(0)
	for i, x := range l {
		s = s.plus(of(x).times(of(w[i])))
	}
	return ratioOnce(s, total(w))
}

// trimmedBy is what is left of l by P13.5, ordered by bits.
func trimmedBy(l []float64, k int) []float64 {
	key := func(x float64) int64 {
		if b := hex(x); b>>63 == 1 {
			return -1 - int64(b&^(1<<63))
		}
		return int64(hex(x))
	}
	row := slices.Clone(l)
	slices.SortFunc(row, func(x, y float64) int { return cmp.Compare(key(x), key(y)) })
	for range k {
		row = row[1 : len(row)-1]
	}
	return row
}

// valueOf is a Dyad's value, whatever stands in it.
func valueOf(d api.Dyad) value {
	m := new(big.Int)
	for _, w := range slices.Backward(d.Mag) {
		m.Lsh(m, 32).Or(m, big.NewInt(int64(w)))
	}
	if d.Neg {
		m.Neg(m)
	}
	return value{m, d.Exp}
}
