package shard

import (
	"encoding/binary"
	"math"
	"math/big"
	"slices"
)

// raw is a dyad's bytes, field by field, whatever stands in them.
type raw struct {
	sign  byte
	exp   uint16
	words []uint32
}

// layout is a shard's bytes, field by field, whatever stands in them.
type layout struct {
	counts       [6]uint64 // NaN, Up, Down, Minus, Plus, All
	sum, squares raw
	ends         []uint64
}

func (r raw) bytes() []byte {
	b := binary.LittleEndian.AppendUint16([]byte{r.sign}, r.exp)
	b = binary.LittleEndian.AppendUint16(b, uint16(len(r.words)))
	for _, w := range r.words {
		b = binary.LittleEndian.AppendUint32(b, w)
	}
	return b
}

func (l layout) bytes() []byte {
	var b []byte
	for _, n := range l.counts {
		b = binary.LittleEndian.AppendUint64(b, n)
	}
	b = slices.Concat(b, l.sum.bytes(), l.squares.bytes())
	for _, x := range l.ends {
		b = binary.LittleEndian.AppendUint64(b, x)
	}
	return b
}

// between are the bits of a least and a greatest one.
func between(x, y float64) []uint64 { return []uint64{hex(x), hex(y)} }

// rawOf is v times two to the power of exp.
func rawOf(v *big.Int, exp int) raw {
	if v.Sign() == 0 {
		return raw{exp: 4096}
	}
	zeros := v.TrailingZeroBits()
	odd := new(big.Int).Rsh(new(big.Int).Abs(v), zeros)
	r := raw{exp: uint16(exp + int(zeros) + 4096)}
	if v.Sign() < 0 {
		r.sign = 1
	}
	for mask := big.NewInt(math.MaxUint32); odd.Sign() > 0; odd.Rsh(odd, 32) {
		r.words = append(r.words, uint32(new(big.Int).And(odd, mask).Uint64()))
	}
	return r
}

// whole is a small whole number, times two to the power of exp.
func whole(n int64, exp int) raw { return rawOf(big.NewInt(n), exp) }

// power is 2^high, less or more by n times 2^low.
func power(high int, n int64, low int) raw {
	v := new(big.Int).Lsh(big.NewInt(1), uint(high-low))
	return rawOf(v.Add(v, big.NewInt(n)), low)
}

// parsed reads a layout of bytes; false, if there are too few or too many.
func parsed(b []byte) (l layout, ok bool) {
	ok = true
	take := func(n int) []byte {
		if len(b) < n {
			ok = false
			return make([]byte, n)
		}
		part := b[:n]
		b = b[n:]
		return part
	}
	dyad := func() raw {
		r := raw{sign: take(1)[0], exp: binary.LittleEndian.Uint16(take(2))}
		r.words = make([]uint32, binary.LittleEndian.Uint16(take(2)))
		for i := range r.words {
			r.words[i] = binary.LittleEndian.Uint32(take(4))
		}
		return r
	}
	for i := range l.counts {
		l.counts[i] = binary.LittleEndian.Uint64(take(8))
	}
	l.sum = dyad()
	l.squares = dyad()
	if l.counts[5] > l.counts[0] {
		l.ends = []uint64{binary.LittleEndian.Uint64(take(8)), binary.LittleEndian.Uint64(take(8))}
	}
	return l, ok && len(b) == 0
}

// lawful is P21.5, said once more, by other means.
func lawful(b []byte) bool {
	l, ok := parsed(b)
	return ok && l.sum.formed() && l.squares.formed() && l.counted() && l.summed() && l.ended()
}

func (r raw) formed() bool {
	if len(r.words) == 0 {
		return r.sign == 0 && r.exp == 4096
	}
	return r.sign <= 1 && r.words[0]&1 == 1 && r.words[len(r.words)-1] != 0
}

func (l layout) counted() bool {
	together := uint64(0)
	for i, n := range l.counts {
		if n > most40 {
			return false
		}
		if i < 5 {
			together += n
		}
	}
	return together <= l.counts[5]
}

// finite and plain are f and k.
func (l layout) finite() uint64 { return l.counts[5] - l.counts[0] - l.counts[1] - l.counts[2] }

func (l layout) plain() uint64 { return l.finite() - l.counts[3] - l.counts[4] }

// value is without its sign, in units of 2^-4096.
func (r raw) value() *big.Int {
	var high []byte
	for _, w := range slices.Backward(r.words) {
		high = binary.BigEndian.AppendUint32(high, w)
	}
	v := new(big.Int).SetBytes(high)
	return v.Lsh(v, uint(r.exp))
}

func (l layout) summed() bool {
	s, q, k := l.sum.value(), l.squares.value(), new(big.Int).SetUint64(l.plain())
	if k.Sign() == 0 {
		return s.Sign() == 0 && q.Sign() == 0
	}
	bound := new(big.Int).Lsh(k, 2048+4096)
	if q.Sign() == 0 || l.squares.sign == 1 || q.Cmp(bound) >= 0 || l.squares.exp < 4096-2148 {
		return false
	}
	if s.Sign() == 0 {
		return true
	}
	right := new(big.Int).Mul(k, q)
	return l.sum.exp >= 4096-1074 && s.Mul(s, s).Cmp(right.Lsh(right, 4096)) <= 0
}

func (l layout) ended() bool {
	if l.ends == nil {
		return true
	}
	low, high := math.Float64frombits(l.ends[0]), math.Float64frombits(l.ends[1])
	// A NaN is not at most anything; of two noughts -0 is first.
	if !(low <= high) || low == 0 && high == 0 && math.Signbit(high) && !math.Signbit(low) {
		return false
	}
	up, down, minus, plus := l.counts[1] > 0, l.counts[2] > 0, l.counts[3] > 0, l.counts[4] > 0
	if !mayEnd(low, -inf, down, l.finite() > 0) || !mayEnd(high, inf, up, l.finite() > 0) {
		return false
	}
	if l.finite() == 0 || l.plain() > 0 {
		return true
	}
	return (down || low == 0 && math.Signbit(low) == minus) && (up || high == 0 && math.Signbit(high) != plus)
}

// mayEnd tells whether x may be the end on the side of an infinity, by whether there is one such, and whether there is a finite number.
func mayEnd(x, outer float64, there, finite bool) bool {
	if there || !finite {
		return there == (x == outer) && math.IsInf(x, 0)
	}
	return !math.IsInf(x, 0)
}
