package bits

import (
	"math"
	"math/big"
	"testing"

	"steelyard/api"
)

const (
	least      = 0x1p-1074
	greatest   = math.MaxFloat64
	least32    = 0x1p-149
	greatest32 = math.MaxFloat32
)

func minus() float64 { return math.Copysign(0, -1) }

func inf(sign int) float64 { return math.Inf(sign) }

// odds are NaN of several bits: quiet and not, both signs, low and high ends.
func odds() []float64 {
	var l []float64
	for _, b := range []uint64{
		0x7FF8000000000000, 0xFFF8000000000000, 0x7FF0000000000001, 0xFFF0000000000123,
		0x7FFFFFFFFFFFFFFF, 0xFFFFFFFFFFFFFFFF, 0x7FF7FFFFFFFFFFFF, 0x7FF8000000000001,
	} {
		l = append(l, math.Float64frombits(b))
	}
	return l
}

// edges are the numbers that the chapter names, and their neighbours by bits, without NaN.
func edges() []float64 {
	l := []float64{0, minus(), inf(1), inf(-1)}
	for _, x := range []float64{
		least, 2 * least, 0x1p-1022, 0x1p-1022 - least, 0x1p-1022 + least, 0x1p-1021,
		1, 1 - 0x1p-53, 1 + 0x1p-52, 2, 3, math.Pi, 0.1, 1e16, 0x1p52, 0x1p53, 0x1p1023,
		greatest, greatest - 0x1p971,
		least32, least32 / 2, 0x1p-126, 0x1p-126 - least32, greatest32, 0x1p128 - 0x1p103, 0x1p128, 0x1p200,
	} {
		l = append(l, x, -x)
	}
	return l
}

// spreadOut is every exponent with a few fractions each, of both signs, as bits tell them; no NaN.
func spreadOut() []float64 {
	var l []float64
	seed := uint64(0x9E3779B97F4A7C15)
	for e := range uint64(2047) {
		fracs := []uint64{0, 1, 1<<52 - 1, 1 << 51}
		for range 6 {
			seed = seed*6364136223846793005 + 1442695040888963407
			fracs = append(fracs, seed>>12)
		}
		for _, f := range fracs {
			b := e<<52 | f
			l = append(l, math.Float64frombits(b), math.Float64frombits(b|1<<63))
		}
	}
	return append(l, edges()...)
}

// all is spreadOut and the NaN.
func all() []float64 { return append(spreadOut(), odds()...) }

// some are few enough to be taken in pairs and threes.
func some() []float64 { return append(edges(), odds()...) }

func hex(x float64) uint64 { return math.Float64bits(x) }

func hex32(x float32) uint32 { return math.Float32bits(x) }

func sameBits(t *testing.T, what string, got, want float64) {
	t.Helper()
	if hex(got) != hex(want) {
		t.Errorf("%s: %x (%g), want %x (%g)", what, hex(got), got, hex(want), want)
	}
}

func sameParts(t *testing.T, what any, got, want api.Parts) {
	t.Helper()
	if got != want {
		t.Errorf("parts of %v: %+v, want %+v", what, got, want)
	}
}

// worth is the exact size, in steps of 2^-1074, that the chapter's words give to bits of which fracs are the fraction's, a nought's power of two being least; an infinity's bits stand for the number that would follow the greatest.
func worth(b uint64, fracs uint, least int) *big.Int {
	e, f := int(b>>fracs), b&(1<<fracs-1)
	if e > 0 {
		f, e = f|1<<fracs, e-1
	}
	return steps(f, e+least)
}

// steps is n times two to the power of exp, in steps of 2^-1074.
func steps(n uint64, exp int) *big.Int {
	w := new(big.Int).SetUint64(n)
	return w.Lsh(w, uint(exp+1074))
}

// worth32 is the same of 32 bits.
func worth32(b uint32) *big.Int { return worth(uint64(b), 23, -149) }

// size is the exact |x|, in steps of 2^-1074.
func size(x float64) *big.Int { return worth(hex(x)&^(1<<63), 52, -1074) }
