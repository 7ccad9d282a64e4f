package fit

import (
	"math"
	"math/big"

	"steelyard/api"
)

// value is m times two to the power of exp, by the library's own whole numbers.
type value struct {
	m   *big.Int
	exp int
}

// of is a finite number, taken apart by its bits.
func of(x float64) value {
	b := hex(x)
	v := worth(b &^ (1 << 63))
	if b>>63 == 1 {
		v.m.Neg(v.m)
	}
	return v
}

// worth is the size that the bits of a number without its sign stand for; those of the infinity stand for the number that would follow the greatest.
func worth(b uint64) value {
	e, f := int(b>>52), b&(1<<52-1)
	if e > 0 {
		f, e = f|1<<52, e-1
	}
	return value{new(big.Int).SetUint64(f), e - 1074}
}

// whole is a whole number.
func whole(n int) value { return value{big.NewInt(int64(n)), 0} }

// written writes v as a whole number times two to the power of exp, which is not above its own.
func written(v value, exp int) *big.Int { return new(big.Int).Lsh(v.m, uint(v.exp-exp)) }

func (v value) times(o value) value { return value{new(big.Int).Mul(v.m, o.m), v.exp + o.exp} }

func (v value) less(o value) value { return v.plus(value{new(big.Int).Neg(o.m), o.exp}) }

func (v value) size() value { return value{new(big.Int).Abs(v.m), v.exp} }

func (v value) sign() int { return v.m.Sign() }

func (v value) plus(o value) value {
	if v.sign() == 0 {
		return o
	}
	if o.sign() == 0 {
		return v
	}
	exp := min(v.exp, o.exp)
	m := written(v, exp)
	return value{m.Add(m, written(o, exp)), exp}
}

// stands is how v stands to o: -1, 0, 1.
func (v value) stands(o value) int {
	s := v.sign()
	if s == 0 || s != o.sign() {
		return v.m.Cmp(o.m)
	}
	if x, y := v.m.BitLen()+v.exp, o.m.BitLen()+o.exp; x < y {
		return -s
	} else if x > y {
		return s
	}
	exp := min(v.exp, o.exp)
	return written(v, exp).Cmp(written(o, exp))
}

// middle is the one between what bits stand for and what follows it.
func middle(b uint64) value {
	v := worth(b).plus(worth(b + 1))
	return value{v.m, v.exp - 1}
}

// rounded is what DOC.md's words for rounding once say by each mode of a value that is no nought, of which one tells how its size stands to another; the neighbours are looked up among all numbers.
func rounded(neg bool, stands func(size value) int) [5]float64 {
	const endless = 0x7FF << 52
	in, out := uint64(0), uint64(endless)
	if stands(worth(endless)) >= 0 {
		in = endless - 1
	}
	for out-in > 1 {
		if mid := in + (out-in)/2; stands(worth(mid)) >= 0 {
			in = mid
		} else {
			out = mid
		}
	}
	pick := [5]uint64{api.Even: in, api.Zero: in, api.Up: out, api.Down: in, api.Away: in}
	if neg {
		pick[api.Up], pick[api.Down] = in, out
	}
	switch half := stands(middle(in)); {
	case stands(worth(in)) == 0:
		pick = [5]uint64{in, in, in, in, in}
	case half > 0:
		pick[api.Even], pick[api.Away] = out, out
	case half == 0:
		pick[api.Even], pick[api.Away] = in+in%2, out
	}
	var all [5]float64
	for mode, b := range pick {
		all[mode] = math.Float64frombits(b)
		if neg {
			all[mode] = turned(all[mode])
		}
	}
	return all
}

// ratioOnce is num by den, which is above nought, by each mode; nought is +0.
func ratioOnce(num, den value) [5]float64 {
	if num.sign() == 0 {
		return [5]float64{}
	}
	n := num.size()
	return rounded(num.sign() < 0, func(size value) int { return n.stands(size.times(den)) })
}

// sumOf is the exact sum of finite numbers.
func sumOf(l []float64) value {
	s := of(0)
	for _, x := range l {
		s = s.plus(of(x))
	}
	return s
}

// away is, of each number, n times how far it lies from the mean.
func away(l []float64) []value {
	s, n := sumOf(l), whole(len(l))
	out := make([]value, len(l))
	for i, x := range l {
		out[i] = of(x).times(n).less(s)
	}
	return out
}

// together is the sum of the products of what stands at one place.
func together(a, b []value) value {
	s := of(0)
	for i, v := range a {
		s = s.plus(v.times(b[i]))
	}
	return s
}

// each is every number's value.
func each(l []float64) []value {
	out := make([]value, len(l))
	for i, x := range l {
		out[i] = of(x)
	}
	return out
}

// model is a line through finite points, as many x as y, worked out about the means of x and y: there it goes through nought.
type model struct {
	n        value
	x, y     []value // n times how far each lies from the mean
	sx, sy   value   // of the points themselves
	run, tie value   // the squares of x, and the products of x and y, added up: the slope is tie by run
}

func modelOf(a, b []float64) model {
	m := model{n: whole(len(a)), x: away(a), y: away(b), sx: sumOf(a), sy: sumOf(b)}
	m.run, m.tie = together(m.x, m.x), together(m.x, m.y)
	return m
}

// upright holds where no line goes through.
func (m model) upright() bool { return m.run.sign() == 0 }

// ahead is run times n times the line's value at a place: it goes through the means, by its slope.
func (m model) ahead(at value) value {
	fromMean := at.times(m.n).less(m.sx)
	return m.sy.times(m.run).plus(m.tie.times(fromMean))
}

// at is what P19.3 says of a place, by each mode.
func (m model) at(place float64) [5]float64 {
	return ratioOnce(m.ahead(of(place)), m.n.times(m.run))
}

// left is the sum of what each point lies off the line, squared: first (run times n) times that, squared.
func (m model) left() [5]float64 {
	by := m.run.times(m.n)
	off := make([]value, len(m.x))
	for i, x := range m.x {
		off[i] = m.run.times(m.y[i]).less(m.tie.times(x))
	}
	return ratioOnce(together(off, off), by.times(by))
}

// told is how much of the squares about the mean the line has.
func (m model) told() [5]float64 {
	rise := together(m.y, m.y)
	if rise.sign() == 0 {
		return everyMode(1)
	}
	return ratioOnce(m.tie.times(m.tie), m.run.times(rise))
}

// lines are what P19.2 says, by each mode.
func (m model) lines() [5]api.Fit {
	slope, cut, told, left := ratioOnce(m.tie, m.run), m.at(0), m.told(), m.left()
	var all [5]api.Fit
	for mode := range all {
		all[mode] = api.Fit{N: len(m.x), Slope: slope[mode], Cut: cut[mode], Told: told[mode], Left: left[mode]}
	}
	return all
}

// throughBy is what P19.4 says of finite points, as many x as y; false, if no line goes through nought.
func throughBy(a, b []float64) ([5]float64, bool) {
	x, y := each(a), each(b)
	squares := together(x, x)
	if squares.sign() == 0 {
		return [5]float64{}, false
	}
	return ratioOnce(together(x, y), squares), true
}
