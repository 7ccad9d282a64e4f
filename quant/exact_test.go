package quant

import (
	"cmp"
	"math"
	"math/big"
	"slices"

	"steelyard/api"
)

// key is a whole number that rises with the total order of finite numbers: the bits, turned round below nought.
func key(x float64) uint64 {
	if b := hex(x); b>>63 == 1 {
		return ^b
	}
	return hex(x) | 1<<63
}

func byKey(x, y float64) int { return cmp.Compare(key(x), key(y)) }

// sortedBy is l in the total order.
func sortedBy(l []float64) []float64 { return slices.SortedFunc(slices.Values(l), byKey) }

// worth is the size that the bits of a number without its sign stand for, as so many of the least numbers; those of the infinity stand for the number that would follow the greatest.
func worth(b uint64) *big.Int {
	e, f := int(b>>52), b&(1<<52-1)
	if e > 0 {
		f, e = f|1<<52, e-1
	}
	m := new(big.Int).SetUint64(f)
	return m.Lsh(m, uint(e))
}

// of is a finite number, as so many of the least ones.
func of(x float64) *big.Int {
	v := worth(hex(x) &^ (1 << 63))
	if hex(x)>>63 == 1 {
		v.Neg(v)
	}
	return v
}

// once is what DOC.md's words for rounding once say of num by den (above nought) of the least numbers, by each mode; nought is +0. The neighbours are looked up among all numbers; what lies on a line between two finite ones is not beyond the greatest.
func once(num, den *big.Int) [5]float64 {
	if num.Sign() == 0 {
		return [5]float64{}
	}
	size, neg := new(big.Int).Abs(num), num.Sign() < 0
	stands := func(of *big.Int) int { return size.Cmp(new(big.Int).Mul(of, den)) }
	in, out := uint64(0), uint64(0x7FF<<52)
	for out-in > 1 {
		if mid := in + (out-in)/2; stands(worth(mid)) >= 0 {
			in = mid
		} else {
			out = mid
		}
	}
	size.Lsh(size, 1)
	even, away := in, in
	switch stands(new(big.Int).Add(worth(in), worth(out))) {
	case 0:
		even, away = in+in%2, out
	case 1:
		even, away = out, out
	}
	size.Rsh(size, 1)
	if stands(worth(in)) == 0 {
		even, away, out = in, in, in
	}
	sign := uint64(0)
	if neg {
		sign = 1 << 63
	}
	number := func(b uint64) float64 { return math.Float64frombits(b | sign) }
	return byModes(number(even), number(away), number(in), number(out))
}

// noughtOf is what chapter 6 says of a sum of two finite numbers that comes to nought, by each mode.
func noughtOf(x, y float64) [5]float64 {
	minus, plus := 0, 0
	for _, z := range nums(x, y) {
		if sameBits(z, noughtBelow) {
			minus++
		}
		if sameBits(z, 0) {
			plus++
		}
	}
	all := everyMode(0)
	switch {
	case minus == 2:
		return everyMode(noughtBelow)
	case plus < 2:
		all[api.Down] = noughtBelow
	}
	return all
}

// between is x and rest by den of the way from it to y, by each mode: what P16.2 says of AtLine, and with 1 by 2 what it says of AtMid.
func between(x, y float64, rest, den *big.Int) [5]float64 {
	way := new(big.Int).Sub(of(y), of(x))
	way.Mul(way, rest)
	num := new(big.Int).Mul(of(x), den)
	num.Add(num, way)
	if num.Sign() == 0 {
		return noughtOf(x, y)
	}
	return once(num, den)
}

// at is what P16.2 says of a sorted list's share, by each rule and each mode.
func at(s []float64, num, den int) [5][5]float64 {
	place := big.NewRat(int64(num), int64(den))
	place.Mul(place, big.NewRat(int64(len(s)-1), 1))
	i, rest := new(big.Int).QuoRem(place.Num(), place.Denom(), new(big.Int))
	k := int(i.Int64())
	if rest.Sign() == 0 {
		all := everyMode(s[k])
		return [5][5]float64{all, all, all, all, all}
	}
	x, y := s[k], s[k+1]
	near := x
	switch new(big.Rat).SetFrac(rest, place.Denom()).Cmp(big.NewRat(1, 2)) {
	case 0:
		near = s[k+k%2]
	case 1:
		near = y
	}
	return [5][5]float64{
		api.AtLow:  everyMode(x),
		api.AtHigh: everyMode(y),
		api.AtNear: everyMode(near),
		api.AtMid:  between(x, y, big.NewInt(1), big.NewInt(2)),
		api.AtLine: between(x, y, rest, place.Denom()),
	}
}

// shareBy is how many of l are not above x, by their values.
func shareBy(l []float64, x float64) int {
	n := 0
	for _, y := range l {
		switch {
		case x == inf:
			n++
		case x == -inf:
		case of(y).Cmp(of(x)) <= 0:
			n++
		}
	}
	return n
}
