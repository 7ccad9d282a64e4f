package root

import (
	"math"
	"math/big"
	"testing"

	"steelyard/api"
)

// kind is a kind of numbers by its bits alone: fracs of them are the fraction's, and all that stands ahead of endless is finite.
type kind struct {
	fracs   uint
	least   int
	endless uint64
	sign    uint64
}

var kinds = [2]kind{{52, -1074, 0x7FF << 52, 1 << 63}, {23, -149, 0xFF << 23, 1 << 31}}

// worth is the size that chapter 1's words give to bits; those of the infinity stand for the number that would follow the greatest.
func (k kind) worth(b uint64) value {
	e, f := int(b>>k.fracs), b&(1<<k.fracs-1)
	if e > 0 {
		f, e = f|1<<k.fracs, e-1
	}
	return value{new(big.Int).SetUint64(f), e + k.least}
}

// middle is the one between what b has and what follows it.
func (k kind) middle(b uint64) value {
	low, high := level(k.worth(b), k.least), level(k.worth(b+1), k.least)
	return value{low.Add(low, high), k.least - 1}
}

// bounds are bits at which something turns: nought, the least small one, the least plain one, powers of two, 1, the greatest.
func (k kind) bounds() []uint64 {
	l := []uint64{0, 1, 2, 3, 1<<k.fracs - 2, 1<<k.fracs - 1, 1 << k.fracs, 1<<k.fracs + 1, 2<<k.fracs - 1, 2 << k.fracs}
	one := k.endless >> (k.fracs + 1) << k.fracs
	return append(l, one-2, one-1, one, one+1, one+2, one+1<<k.fracs-1, k.endless-1<<k.fracs, k.endless-3, k.endless-2, k.endless-1)
}

// asked is the size of a ratio's value, or its root, held against others by exact products.
type asked struct {
	num, den value
	neg      bool
	root     bool
}

func ask(r api.Ratio, root bool) asked {
	num := valueOf(r.Num)
	neg := num.m.Sign() < 0
	num.m.Abs(num.m)
	return asked{num, valueOf(r.Den), neg, root}
}

// stands is how what is asked stands to a size.
func (a asked) stands(x value) int {
	if a.root {
		x = product(x, x)
	}
	return stands(a.num, product(x, a.den))
}

// rounded is what DOC.md's words for rounding once say by each mode, as bits; the neighbours are looked up among all numbers.
func (k kind) rounded(a asked) [5]uint64 {
	if a.num.m.Sign() == 0 {
		return [5]uint64{}
	}
	in, out := uint64(0), k.endless
	if a.stands(k.worth(k.endless)) >= 0 {
		in = k.endless - 1
	}
	for out-in > 1 {
		if mid := in + (out-in)/2; a.stands(k.worth(mid)) >= 0 {
			in = mid
		} else {
			out = mid
		}
	}
	pick := [5]uint64{api.Even: in, api.Zero: in, api.Up: out, api.Down: in, api.Away: in}
	if a.neg {
		pick[api.Up], pick[api.Down] = in, out
	}
	switch half := a.stands(k.middle(in)); {
	case a.stands(k.worth(in)) == 0:
		pick = [5]uint64{in, in, in, in, in}
	case half > 0:
		pick[api.Even], pick[api.Away] = out, out
	case half == 0:
		pick[api.Even], pick[api.Away] = in+in%2, out
	}
	if a.neg {
		for i := range pick {
			pick[i] |= k.sign
		}
	}
	return pick
}

// quotAs fails unless Quot and Quot32 answer by all modes as DOC.md's words say.
func quotAs(t *testing.T, r api.Ratio) {
	t.Helper()
	a := ask(r, false)
	want, want32 := kinds[0].rounded(a), kinds[1].rounded(a)
	for mode := range 5 {
		x, e := Quot(r, mode)
		answers(t, "Quot of "+told(r), x, e, math.Float64frombits(want[mode]), api.OK)
		y, e := Quot32(r, mode)
		answers32(t, "Quot32 of "+told(r), y, e, math.Float32frombits(uint32(want32[mode])), api.OK)
	}
}

// rootAs fails unless Root and Root32 answer by all modes as DOC.md's words say, and refuse what is below nought.
func rootAs(t *testing.T, r api.Ratio) {
	t.Helper()
	a := ask(r, true)
	if a.neg {
		for mode := range 5 {
			x, e := Root(r, mode)
			answers(t, "Root of "+told(r), x, e, 0, api.ErrBelow)
			y, e := Root32(r, mode)
			answers32(t, "Root32 of "+told(r), y, e, 0, api.ErrBelow)
		}
		return
	}
	want, want32 := kinds[0].rounded(a), kinds[1].rounded(a)
	for mode := range 5 {
		x, e := Root(r, mode)
		answers(t, "Root of "+told(r), x, e, math.Float64frombits(want[mode]), api.OK)
		y, e := Root32(r, mode)
		answers32(t, "Root32 of "+told(r), y, e, math.Float32frombits(uint32(want32[mode])), api.OK)
	}
}

// divisors are what both sides of a ratio are multiplied by, so that its value is none the less: one, others that are odd, one that is not.
func divisors() []*big.Int {
	l := []*big.Int{big.NewInt(1), big.NewInt(3), big.NewInt(1<<40 - 4)}
	return append(l, new(big.Int).Add(new(big.Int).Lsh(big.NewInt(0x123456789), 300), big.NewInt(77)))
}

// around hands on sizes about each bound: numbers, quarters and halves of the way to the next one, as whole numbers times 2^-deep.
func (k kind) around(deep int, do func(m *big.Int)) {
	for _, b := range k.bounds() {
		low, high := level(k.worth(b), -deep), level(k.worth(b+1), -deep)
		quarter := new(big.Int).Rsh(new(big.Int).Sub(high, low), 2)
		for range 5 {
			do(new(big.Int).Set(low))
			low.Add(low, quarter)
		}
	}
}
