package sums

import (
	"math"
	"math/big"
	"slices"
	"testing"
)

const (
	least32    = 0x1p-149
	normal32   = 0x1p-126 // the least one
	greatest32 = math.MaxFloat32
)

func hex32(x float32) uint32 { return math.Float32bits(x) }

// stepped32 is a step of 32 bits: the library's own rounding of what the step of 64 bits starts from.
func stepped32(a, b float32) float32 {
	x, y := float64(a), float64(b)
	if s := stepped(x, y); s-s != 0 || a == 0 && b == 0 {
		return narrow32(s)
	}
	s, _ := exactly(x, y).Float32()
	return s
}

// narrow32 is a number of 64 bits, rounded to 32 by Even; the exact value is the library's.
func narrow32(x float64) float32 {
	if x != x {
		return math.Float32frombits(answered32)
	}
	y, _ := new(big.Float).SetFloat64(x).Float32()
	return y
}

func running32(l []float32) float32 {
	if len(l) == 0 {
		return 0
	}
	s := l[0]
	for _, x := range l[1:] {
		s = stepped32(s, x)
	}
	if s != s {
		return math.Float32frombits(answered32)
	}
	return s
}

func mixed(l []float32) float32 {
	var wide []float64
	for _, x := range l {
		wide = append(wide, float64(x))
	}
	return narrow32(inSteps{}.running(wide))
}

// short holds both sums of 32 bits against their steps.
func short(t *testing.T, l []float32) {
	t.Helper()
	if x, is := Running32(l), running32(l); hex32(x) != hex32(is) {
		t.Errorf("Running32 of %d numbers, %x ..: %x (bits %x); want %x (bits %x)", len(l), l[:min(len(l), 8)], x, hex32(x), is, hex32(is))
	}
	if x, is := Mixed(l), mixed(l); hex32(x) != hex32(is) {
		t.Errorf("Mixed of %d numbers, %x ..: %x (bits %x); want %x (bits %x)", len(l), l[:min(len(l), 8)], x, hex32(x), is, hex32(is))
	}
}

// odds32 are NaNs of many bits, quiet ones and others, of either sign.
func odds32() []float32 {
	var l []float32
	for _, sign := range []uint32{0, 1 << 31} {
		for _, frac := range []uint32{1, 2, 1 << 21, 1 << 22, 1<<22 | 1, 1<<23 - 1, 1<<22 - 1, 0x2A5A5A} {
			l = append(l, math.Float32frombits(sign|0xFF<<23|frac))
		}
	}
	return l
}

// edges32 are numbers of either sign at which steps of 32 bits change; the infinities, too.
func edges32() []float32 {
	var l []float32
	for _, x := range []float32{0, least32, 3 * least32, normal32 - least32, normal32, normal32 + least32, 0x1p-24, 0x1.000002p-24, 0x1p-60, 0.1, 1, 1 + 0x1p-23, 3, 0x1p24 - 1, 0x1p24, 0x1p24 + 2, 0x1p100, 0x1p103, 0x1.fffffep102, greatest32, float32(math.Inf(1))} {
		l = append(l, x, math.Float32frombits(hex32(x)^1<<31))
	}
	return l
}

func (d *dice) short(n, low, high int) []float32 {
	var l []float32
	for range n {
		l = append(l, float32(d.sized(low, high)))
	}
	return l
}

// P10.8: of none +0; of one, of two and of three of every kind, step by step.
func TestShortFew(t *testing.T) {
	short(t, nil)
	short(t, []float32{})
	all := append(edges32(), odds32()...)
	for _, x := range all {
		short(t, []float32{x})
		for _, y := range all {
			short(t, []float32{x, y})
		}
	}
	for _, x := range edges32() {
		for _, y := range edges32() {
			for _, z := range []float32{1, -0x1p-24, 0x1p24, -greatest32, least32, 0, float32(math.Inf(-1))} {
				short(t, []float32{x, y, z})
			}
		}
	}
}

// P10.8: lists of any length, also above MaxList; numbers of like sizes, of all, and of those below the least normal one.
func TestShortLengths(t *testing.T) {
	d := dice(110)
	for n := range 200 {
		short(t, d.short(n, -20, 20))
		short(t, d.short(n, -149, -120))
		short(t, d.short(n, -149, 127))
		short(t, d.short(n, 120, 127))
		short(t, append(d.short(n, -2, 2), edges32()[d.below(len(edges32()))]))
	}
	for _, n := range []int{1000, longest, longest + 1, 2*longest + 1} {
		short(t, d.short(n, -20, 20))
	}
	ones := slices.Repeat([]float32{1}, 3*longest)
	if x, y := Running32(ones), Mixed(ones); x != 3*longest || y != 3*longest {
		t.Errorf("so many ones: Running32 %v, Mixed %v", x, y)
	}
}

// By hand, bit by bit: ties, sums beyond the greatest and below the least normal one, noughts.
func TestShortByHand(t *testing.T) {
	up, minus := float32(math.Inf(1)), float32(noughtBelow)
	nan := math.Float32frombits(answered32)
	for _, c := range []struct {
		l              []float32
		running, mixed float32
	}{
		{[]float32{0x1p24, 1}, 0x1p24, 0x1p24},                           // a tie
		{[]float32{0x1p24 + 2, 1}, 0x1p24 + 4, 0x1p24 + 4},               // a tie, the other one even
		{[]float32{0x1p24, 1, 1}, 0x1p24, 0x1p24 + 2},                    //
		{[]float32{0x1p24, 1, 0x1p-20}, 0x1p24, 0x1p24 + 2},              // 64 bits hold what breaks the tie
		{[]float32{1, 0x1p-24, 0x1p-60}, 1, 1},                           // they don't: rounded twice
		{[]float32{1, 0x1p-24, 0x1p-24}, 1, 1 + 0x1p-23},                 //
		{[]float32{-1, -0x1p-24, -0x1p-24}, -1, -1 - 0x1p-23},            //
		{[]float32{greatest32, greatest32, -greatest32}, up, greatest32}, //
		{[]float32{greatest32, greatest32}, up, up},                      //
		{[]float32{greatest32, 0x1p103}, up, up},                         // half a step beyond
		{[]float32{greatest32, 0x1.fffffep102}, greatest32, greatest32},  // less
		{[]float32{greatest32, 0x1p102, 0x1p102}, greatest32, up},        //
		{[]float32{-greatest32, -0x1p103}, -up, -up},                     //
		{[]float32{least32, least32}, 2 * least32, 2 * least32},          //
		{[]float32{normal32, -least32}, normal32 - least32, normal32 - least32},
		{[]float32{-least32, least32}, 0, 0},
		{[]float32{minus}, minus, minus},
		{[]float32{minus, minus}, minus, minus},
		{[]float32{minus, 0}, 0, 0},
		{[]float32{0, minus}, 0, 0},
		{nil, 0, 0},
		{[]float32{up, -up}, nan, nan},
		{[]float32{up, 1}, up, up},
		{[]float32{1, -up}, -up, -up},
		{[]float32{greatest32, greatest32, -up}, nan, -up},
	} {
		if x := Running32(c.l); hex32(x) != hex32(c.running) {
			t.Errorf("Running32 of %x: %x (bits %x); want %x", c.l, x, hex32(x), c.running)
		}
		if x := Mixed(c.l); hex32(x) != hex32(c.mixed) {
			t.Errorf("Mixed of %x: %x (bits %x); want %x", c.l, x, hex32(x), c.mixed)
		}
	}
}

// P10.8: a NaN of whatever bits is the one of 7FC00000, wherever it stands.
func TestShortNaN(t *testing.T) {
	for _, x := range odds32() {
		for n := 1; n < 6; n++ {
			for i := range n {
				l := slices.Repeat([]float32{1}, n)
				l[i] = x
				if a, b := Running32(l), Mixed(l); hex32(a) != answered32 || hex32(b) != answered32 {
					t.Errorf("a NaN of bits %x: Running32 %x, Mixed %x", hex32(x), hex32(a), hex32(b))
				}
			}
		}
	}
}
