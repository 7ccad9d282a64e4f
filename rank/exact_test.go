package rank

import (
	"cmp"
	"math"
	"math/big"
	"slices"

	"steelyard/api"
)

// key is a whole number that rises with the total order: the bits, turned round below nought; all NaN have the greatest one.
func key(x float64) uint64 {
	b := hex(x)
	switch {
	case b&^(1<<63) > 0x7FF<<52:
		return math.MaxUint64
	case b>>63 == 1:
		return ^b
	}
	return b | 1<<63
}

func byKey(x, y float64) int { return cmp.Compare(key(x), key(y)) }

// stand is what P15.1 and P15.2 count for a number of a list.
type stand struct {
	ahead, alike, unlike int // how many stand ahead, are alike (itself too); how many unlike ones, counted once, stand ahead
	first                int // how many alike ones come before it in the list
}

// counted is each number's stand, told by going through the whole list for each.
func counted(l []float64) []stand {
	out := make([]stand, len(l))
	for i, x := range l {
		s := &out[i]
		seen := map[uint64]int{}
		for j, y := range l {
			switch byKey(y, x) {
			case -1:
				s.ahead++
				seen[key(y)]++
			case 0:
				s.alike++
				if j < i {
					s.first++
				}
			}
		}
		s.unlike = len(seen)
	}
	return out
}

// countedLong is the same of long lists, by how often each key is there.
func countedLong(l []float64) []stand {
	often := map[uint64]int{}
	for _, x := range l {
		often[key(x)]++
	}
	var keys []uint64
	for k := range often {
		keys = append(keys, k)
	}
	slices.Sort(keys)
	by := map[uint64]stand{}
	ahead := 0
	for i, k := range keys {
		by[k] = stand{ahead: ahead, alike: often[k], unlike: i}
		ahead += often[k]
	}
	met := map[uint64]int{}
	out := make([]stand, len(l))
	for i, x := range l {
		out[i] = by[key(x)]
		out[i].first = met[key(x)]
		met[key(x)]++
	}
	return out
}

// placesBy is what P15.1 says of Places.
func placesBy(all []stand) []int {
	p := make([]int, len(all))
	for i, s := range all {
		p[i] = s.ahead + s.first
	}
	return p
}

// sortBy is what P15.1 says of Sort: each number put at its place.
func sortBy(l []float64, all []stand) []float64 {
	out := make([]float64, len(l))
	for i, p := range placesBy(all) {
		out[p] = l[i]
		if l[i] != l[i] {
			out[p] = hole
		}
	}
	return out
}

// ranksBy is what P15.2's table says.
func ranksBy(all []stand, tie int) []float64 {
	r := make([]float64, len(all))
	for i, s := range all {
		r[i] = map[int]float64{
			api.TieLow:   float64(s.ahead) + 1,
			api.TieHigh:  float64(s.ahead + s.alike),
			api.TieMean:  float64(s.ahead) + 0.5*float64(s.alike) + 0.5,
			api.TieDense: float64(s.unlike) + 1,
			api.TieFirst: float64(s.ahead+s.first) + 1,
		}[tie]
	}
	return r
}

// medianBy is what P15.4 says of a list that is not too long, by each mode.
func medianBy(l []float64) ([5]float64, api.Errno) {
	if slices.ContainsFunc(l, math.IsNaN) {
		return [5]float64{}, api.ErrOdd
	}
	n := len(l)
	if n == 0 {
		return [5]float64{}, api.ErrNone
	}
	l = slices.Clone(l)
	slices.SortFunc(l, byKey)
	if n%2 == 1 {
		return everyMode(l[(n-1)/2]), api.OK
	}
	x, y := l[n/2-1], l[n/2]
	switch {
	case sameBits(x, y):
		return everyMode(x), api.OK
	case x == -inf && y == inf:
		return [5]float64{}, api.ErrOdd
	case x == -inf:
		return everyMode(-inf), api.OK
	case y == inf:
		return everyMode(inf), api.OK
	}
	return halfOnce(x, y), api.OK
}

// value is m times 2^-1075: half of any sum of two numbers is one.
type value = *big.Int

// worth is the size that the bits of a number without its sign stand for; those of the infinity stand for the number that would follow the greatest.
func worth(b uint64) value {
	e, f := int(b>>52), b&(1<<52-1)
	if e > 0 {
		f, e = f|1<<52, e-1
	}
	m := new(big.Int).SetUint64(f)
	return m.Lsh(m, uint(e)+1)
}

// of is a finite number.
func of(x float64) value {
	v := worth(hex(x) &^ (1 << 63))
	if hex(x)>>63 == 1 {
		v.Neg(v)
	}
	return v
}

// halfOnce is what DOC.md's words for rounding once say of half the sum of two finite numbers, by each mode; nought is +0. The neighbours are looked up among all numbers; as half a sum is no greater than one of the two, none lies beyond the greatest.
func halfOnce(x, y float64) [5]float64 {
	half := new(big.Int).Add(of(x), of(y))
	// Both are even: worth tells in halves of the least number.
	half.Rsh(half, 1)
	neg := half.Sign() < 0
	half.Abs(half)
	if half.Sign() == 0 {
		return [5]float64{}
	}
	in, out := uint64(0), uint64(0x7FF<<52)
	for out-in > 1 {
		if mid := in + (out-in)/2; half.Cmp(worth(mid)) >= 0 {
			in = mid
		} else {
			out = mid
		}
	}
	pick := byModes(0, 0, math.Float64frombits(in), math.Float64frombits(out))
	if neg {
		pick[api.Up], pick[api.Down] = pick[api.Down], pick[api.Up]
	}
	twice := new(big.Int).Add(half, half)
	switch twice.Cmp(new(big.Int).Add(worth(in), worth(out))) {
	case -1:
		pick[api.Even], pick[api.Away] = math.Float64frombits(in), math.Float64frombits(in)
	case 0:
		pick[api.Even], pick[api.Away] = math.Float64frombits(in+in%2), math.Float64frombits(out)
	case 1:
		pick[api.Even], pick[api.Away] = math.Float64frombits(out), math.Float64frombits(out)
	}
	if half.Cmp(worth(in)) == 0 {
		pick = everyMode(math.Float64frombits(in))
	}
	if neg {
		for mode, z := range pick {
			pick[mode] = turned(z)
		}
	}
	return pick
}
