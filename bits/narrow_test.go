package bits

import (
	"math"
	"math/big"
	"testing"

	"steelyard/api"
)

const endless32 = 0x7F800000

// narrowed is what 'rounded once' says, by exact values alone: the two neighbours are looked up among all numbers of 32 bits.
func narrowed(x float64, mode int) uint32 {
	v := size(x)
	below, above := uint32(0), uint32(endless32) // not above v; above v
	if v.Cmp(worth32(endless32)) >= 0 {
		below = endless32 - 1
	}
	for above-below > 1 {
		if mid := below + (above-below)/2; worth32(mid).Cmp(v) <= 0 {
			below = mid
		} else {
			above = mid
		}
	}
	b, sign := below, uint32(0)
	if x < 0 {
		sign = 1 << 31
	}
	lost := new(big.Int).Sub(v, worth32(below))
	if lost.Sign() == 0 {
		return b | sign
	}
	half := lost.Cmp(new(big.Int).Sub(worth32(above), v))
	if mode == api.Up && x > 0 || mode == api.Down && x < 0 ||
		(mode == api.Even || mode == api.Away) && half > 0 ||
		mode == api.Away && half == 0 || mode == api.Even && half == 0 && below%2 == 1 {
		b = above
	}
	return b | sign
}

// middles are the numbers of 32 bits at the chapter's bounds, the ties behind each, and the numbers of 64 bits next to both.
func middles() []float64 {
	var l []float64
	for _, b := range []uint32{0, 1, 2, 3, 0x7FFFFE, 0x7FFFFF, 0x800000, 0x800001, 0xFFFFFE, 0xFFFFFF, 0x1000000,
		0x3F7FFFFE, 0x3F7FFFFF, 0x3F800000, 0x3F800001, 0x3F800002, 0x7F7FFFFD, 0x7F7FFFFE, 0x7F7FFFFF} {
		low, high := math.Ldexp(float64(b), -149), math.Ldexp(float64(b+1), -149)
		if e := int(b >> 23); e > 0 {
			low = math.Ldexp(float64(b&(1<<23-1)|1<<23), e-150)
			high = low + math.Ldexp(1, e-150)
		}
		for _, x := range []float64{low, low + (high-low)/2, low + (high-low)/4, high} {
			l = append(l, x, math.Nextafter(x, inf(1)), math.Nextafter(x, inf(-1)))
		}
	}
	for _, x := range l {
		l = append(l, -x)
	}
	return l
}

// P1.7: ties and bounds, all exponents, by each mode and both signs.
func TestNarrowOfAll(t *testing.T) {
	for _, x := range append(spreadOut(), middles()...) {
		if x == 0 || math.IsInf(x, 0) {
			continue
		}
		for mode := api.Even; mode <= api.Away; mode++ {
			got, e := Narrow(x, mode)
			if want := narrowed(x, mode); hex32(got) != want || e != api.OK {
				t.Errorf("Narrow(%x, %d): %x, error %d; want %x", x, mode, hex32(got), e, want)
			}
		}
	}
}

// P1.7: rows of 32 bits' bits by Even, Zero, Up, Down, Away; the chapter's examples among them.
func TestNarrowExamples(t *testing.T) {
	for _, c := range []struct {
		x    float64
		want [5]uint32
	}{
		{1, [5]uint32{0x3F800000, 0x3F800000, 0x3F800000, 0x3F800000, 0x3F800000}},
		{1 + 0x1p-24, [5]uint32{0x3F800000, 0x3F800000, 0x3F800001, 0x3F800000, 0x3F800001}},
		{-1 - 0x1p-24, [5]uint32{0xBF800000, 0xBF800000, 0xBF800000, 0xBF800001, 0xBF800001}},
		{1 + 3*0x1p-24, [5]uint32{0x3F800002, 0x3F800001, 0x3F800002, 0x3F800001, 0x3F800002}},
		{1 + 0x1p-24 + 0x1p-52, [5]uint32{0x3F800001, 0x3F800000, 0x3F800001, 0x3F800000, 0x3F800001}},
		{1 + 0x1p-24 - 0x1p-52, [5]uint32{0x3F800000, 0x3F800000, 0x3F800001, 0x3F800000, 0x3F800000}},
		{0x1p-150, [5]uint32{0, 0, 1, 0, 1}},
		{-0x1p-150, [5]uint32{1 << 31, 1 << 31, 1 << 31, 1<<31 | 1, 1<<31 | 1}},
		{0x1p-150 + 0x1p-202, [5]uint32{1, 0, 1, 0, 1}},
		{0x1p-151, [5]uint32{0, 0, 1, 0, 0}},
		{3 * 0x1p-150, [5]uint32{2, 1, 2, 1, 2}},
		{5 * 0x1p-150, [5]uint32{2, 2, 3, 2, 3}},
		{least, [5]uint32{0, 0, 1, 0, 0}},
		{-least, [5]uint32{1 << 31, 1 << 31, 1 << 31, 1<<31 | 1, 1 << 31}},
		{0x1p-126 - 0x1p-150, [5]uint32{0x800000, 0x7FFFFF, 0x800000, 0x7FFFFF, 0x800000}},
		{0x1p128 - 0x1p104, [5]uint32{0x7F7FFFFF, 0x7F7FFFFF, 0x7F7FFFFF, 0x7F7FFFFF, 0x7F7FFFFF}},
		{0x1p128 - 0x1p104 + 0x1p76, [5]uint32{0x7F7FFFFF, 0x7F7FFFFF, 0x7F800000, 0x7F7FFFFF, 0x7F7FFFFF}},
		{0x1p128 - 0x1p103 - 0x1p75, [5]uint32{0x7F7FFFFF, 0x7F7FFFFF, 0x7F800000, 0x7F7FFFFF, 0x7F7FFFFF}},
		{0x1p128 - 0x1p103, [5]uint32{0x7F800000, 0x7F7FFFFF, 0x7F800000, 0x7F7FFFFF, 0x7F800000}},
		{-0x1p128 + 0x1p103, [5]uint32{0xFF800000, 0xFF7FFFFF, 0xFF7FFFFF, 0xFF800000, 0xFF800000}},
		{0x1p128, [5]uint32{0x7F800000, 0x7F7FFFFF, 0x7F800000, 0x7F7FFFFF, 0x7F800000}},
		{-0x1p200, [5]uint32{0xFF800000, 0xFF7FFFFF, 0xFF7FFFFF, 0xFF800000, 0xFF800000}},
		{greatest, [5]uint32{0x7F800000, 0x7F7FFFFF, 0x7F800000, 0x7F7FFFFF, 0x7F800000}},
		{0, [5]uint32{}},
		{minus(), [5]uint32{1 << 31, 1 << 31, 1 << 31, 1 << 31, 1 << 31}},
		{inf(1), [5]uint32{0x7F800000, 0x7F800000, 0x7F800000, 0x7F800000, 0x7F800000}},
		{inf(-1), [5]uint32{0xFF800000, 0xFF800000, 0xFF800000, 0xFF800000, 0xFF800000}},
	} {
		for mode, want := range c.want {
			if got, e := Narrow(c.x, mode); hex32(got) != want || e != api.OK {
				t.Errorf("Narrow(%x, %d): %x, error %d; want %x", c.x, mode, hex32(got), e, want)
			}
		}
	}
}

// P1.7: of a NaN the one that is answered, of 32 bits.
func TestNarrowOfNaN(t *testing.T) {
	for _, x := range odds() {
		for mode := range 5 {
			if got, e := Narrow(x, mode); hex32(got) != 0x7FC00000 || e != api.OK {
				t.Errorf("Narrow(NaN %x, %d): %x, error %d", hex(x), mode, hex32(got), e)
			}
		}
	}
}

// P1.7: a mode that is none is refused, whatever the number; beside the error stands +0 (R4).
func TestNarrowRefuses(t *testing.T) {
	for _, mode := range []int{-1, 5, 6, 256, 1 << 32, math.MinInt, math.MaxInt} {
		for _, x := range some() {
			if got, e := Narrow(x, mode); hex32(got) != 0 || e != api.ErrArg {
				t.Errorf("Narrow(%g, %d): %x, error %d; want +0, ErrArg", x, mode, hex32(got), e)
			}
		}
	}
}

// of32 are every exponent of 32 bits with a few fractions each, of both signs, infinities too; no NaN.
func of32() []float32 {
	var l []float32
	for e := range uint32(255) {
		for _, f := range []uint32{0, 1, 2, 3, 0x2AAAAA, 1 << 22, 1<<23 - 2, 1<<23 - 1} {
			l = append(l, math.Float32frombits(e<<23|f), math.Float32frombits(1<<31|e<<23|f))
		}
	}
	return append(l, float32(inf(1)), float32(inf(-1)))
}

// P1.8: the same value, and sign.
func TestWiden(t *testing.T) {
	for _, x := range of32() {
		got := Widen(x)
		if math.Signbit(got) != (hex32(x) >= 1<<31) {
			t.Errorf("Widen(%g): %g", x, got)
		}
		if math.IsInf(float64(x), 0) != math.IsInf(got, 0) {
			t.Errorf("Widen(%g): %g", x, got)
		}
		if !math.IsInf(got, 0) && size(got).Cmp(worth32(hex32(x)&^(1<<31))) != 0 {
			t.Errorf("Widen(%g): %g", x, got)
		}
	}
	for _, b := range []uint32{0x7FC00000, 0xFFC00000, 0x7F800001, 0xFF800001, 0xFFFFFFFF, 0x7FBFFFFF} {
		sameBits(t, "Widen of NaN", Widen(math.Float32frombits(b)), NaN())
	}
}

// P1.12: Narrow of Widen(y) is y, whatever the mode.
func TestNarrowGoesBack(t *testing.T) {
	for mode := range 5 {
		for _, y := range of32() {
			if got, e := Narrow(Widen(y), mode); hex32(got) != hex32(y) || e != api.OK {
				t.Errorf("Narrow(Widen(%x), %d): %x, error %d", hex32(y), mode, hex32(got), e)
			}
		}
		if got, e := Narrow(Widen(math.Float32frombits(0xFF800001)), mode); hex32(got) != 0x7FC00000 || e != api.OK {
			t.Errorf("NaN by %d: %x, error %d", mode, hex32(got), e)
		}
	}
}

// P1.12: Down and Up enclose x with nothing between, and the other modes answer one of the two.
func TestNarrowEncloses(t *testing.T) {
	for _, x := range append(spreadOut(), middles()...) {
		down, _ := Narrow(x, api.Down)
		up, _ := Narrow(x, api.Up)
		if Widen(down) > x || Widen(up) < x {
			t.Errorf("%x lies outside of %g and %g", x, down, up)
		}
		if down != up && math.Nextafter32(down, up) != up {
			t.Errorf("between %g and %g of %x lie others", down, up, x)
		}
		for _, mode := range []int{api.Even, api.Zero, api.Away} {
			if y, _ := Narrow(x, mode); hex32(y) != hex32(down) && hex32(y) != hex32(up) {
				t.Errorf("Narrow(%x, %d): %g, neither %g nor %g", x, mode, y, down, up)
			}
		}
	}
}
