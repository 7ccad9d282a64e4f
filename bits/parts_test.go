package bits

import (
	"math"
	"testing"

	"steelyard/api"
)

// P1.1, by the chapter's words, over again, from the bits.
func TestSplitOfAll(t *testing.T) {
	for _, x := range spreadOut() {
		b := hex(x)
		e, f := int(b<<1>>53), b<<12>>12
		want := api.Parts{Neg: b >= 1<<63}
		switch {
		case e == 0 && f == 0:
			want.Class, want.Exp = 0, -1074
		case e == 0:
			want.Class, want.Exp, want.Frac = 1, -1074, f
		case e < 2047:
			want.Class, want.Exp, want.Frac = 2, e-1075, f+1<<52
		default:
			want.Class = 3
		}
		sameParts(t, x, Split(x), want)
		if Class(x) != want.Class {
			t.Errorf("Class(%g): %d, want %d", x, Class(x), want.Class)
		}
	}
}

// P1.1: nothing of a NaN's own bits is told, its sign neither.
func TestSplitOfNaN(t *testing.T) {
	for _, x := range odds() {
		sameParts(t, "NaN", Split(x), api.Parts{Class: 4})
		if Class(x) != 4 {
			t.Errorf("Class of NaN %x: %d", hex(x), Class(x))
		}
	}
}

// P1.1, the chapter's examples and the edges.
func TestSplitExamples(t *testing.T) {
	for _, c := range []struct {
		x    float64
		want api.Parts
	}{
		{1, api.Parts{Class: api.Plain, Frac: 1 << 52, Exp: -52}},
		{-1, api.Parts{Neg: true, Class: api.Plain, Frac: 1 << 52, Exp: -52}},
		{0, api.Parts{Class: api.Nought, Exp: -1074}},
		{minus(), api.Parts{Neg: true, Class: api.Nought, Exp: -1074}},
		{least, api.Parts{Class: api.Small, Frac: 1, Exp: -1074}},
		{0x1p-1022 - least, api.Parts{Class: api.Small, Frac: 1<<52 - 1, Exp: -1074}},
		{0x1p-1022, api.Parts{Class: api.Plain, Frac: 1 << 52, Exp: -1074}},
		{0x1p-1021, api.Parts{Class: api.Plain, Frac: 1 << 52, Exp: -1073}},
		{-greatest, api.Parts{Neg: true, Class: api.Plain, Frac: 1<<53 - 1, Exp: 971}},
		{inf(1), api.Parts{Class: api.Endless}},
		{inf(-1), api.Parts{Neg: true, Class: api.Endless}},
		{math.NaN(), api.Parts{Class: api.Odd}},
	} {
		sameParts(t, c.x, Split(c.x), c.want)
	}
}

// P1.2, P1.9: Join(Split(x)) is x; Split of what Join answers is p.
func TestJoinGoesBack(t *testing.T) {
	for _, x := range all() {
		p := Split(x)
		y, e := Join(p)
		want := x
		if x != x {
			want = math.Float64frombits(0x7FF8000000000000)
		}
		if e != api.OK {
			t.Errorf("Join(Split(%g)): error %d", x, e)
		}
		sameBits(t, "Join(Split(x))", y, want)
		sameParts(t, y, Split(y), p)
	}
}

// P1.2, the chapter's example.
func TestJoinExample(t *testing.T) {
	y, e := Join(api.Parts{Neg: true, Class: api.Small, Frac: 3, Exp: -1074})
	if e != api.OK {
		t.Errorf("error %d", e)
	}
	sameBits(t, "Join", y, -3*least)
}

// P1.2: parts that no number has; beside the error stands +0 (R4).
func TestJoinRefuses(t *testing.T) {
	for _, p := range []api.Parts{
		{},
		{Class: api.Nought, Exp: 0},
		{Neg: true, Class: api.Nought},
		{Class: api.Nought, Exp: -1075},
		{Class: api.Nought, Exp: -1074, Frac: 1},
		{Class: api.Nought, Exp: -1074, Frac: 1 << 52},
		{Class: api.Small, Exp: -1074},
		{Class: api.Small, Exp: -1074, Frac: 1 << 52},
		{Class: api.Small, Exp: -1074, Frac: 1<<63 | 1},
		{Class: api.Small, Exp: -1074, Frac: 0x7FF << 52},
		{Class: api.Small, Exp: -1074, Frac: 0x7FF<<52 | 1},
		{Class: api.Small, Exp: -1073, Frac: 1},
		{Class: api.Small, Exp: -1075, Frac: 1},
		{Class: api.Plain, Exp: 0, Frac: 3},
		{Class: api.Plain, Exp: 0, Frac: 0},
		{Class: api.Plain, Exp: 0, Frac: 1<<52 - 1},
		{Class: api.Plain, Exp: 0, Frac: 1 << 53},
		{Class: api.Plain, Exp: 0, Frac: 1<<53 | 1<<52},
		{Class: api.Plain, Exp: 0, Frac: 1<<63 | 1<<52},
		{Class: api.Plain, Exp: -1074, Frac: 5},
		{Class: api.Plain, Exp: -1075, Frac: 1 << 52},
		{Class: api.Plain, Exp: 972, Frac: 1 << 52},
		{Class: api.Plain, Exp: 972, Frac: 1<<53 - 1},
		{Class: api.Plain, Exp: 973, Frac: 1 << 52},
		{Class: api.Plain, Exp: 2048, Frac: 1 << 52},
		{Class: api.Plain, Exp: 4096 - 52, Frac: 1 << 52},
		{Class: api.Plain, Exp: math.MaxInt, Frac: 1 << 52},
		{Class: api.Plain, Exp: math.MinInt, Frac: 1 << 52},
		{Class: api.Endless, Exp: 1},
		{Class: api.Endless, Exp: -1074},
		{Class: api.Endless, Frac: 1},
		{Class: api.Endless, Frac: 1 << 52, Exp: 972},
		{Neg: true, Class: api.Odd},
		{Class: api.Odd, Frac: 1},
		{Class: api.Odd, Frac: 1 << 51},
		{Class: api.Odd, Exp: 1},
		{Class: 5},
		{Class: 5, Exp: -1074},
		{Class: -1},
		{Class: -1, Exp: -1074},
		{Class: math.MinInt, Exp: -52, Frac: 1 << 52},
	} {
		y, e := Join(p)
		if e != api.ErrParts || hex(y) != 0 {
			t.Errorf("Join(%+v): %g (%x), error %d; want +0, ErrParts", p, y, hex(y), e)
		}
	}
}

// P1.2: each field of each number's parts, moved away a bit, is refused, or is another number's.
func TestJoinTakesOnlyParts(t *testing.T) {
	for _, x := range some() {
		for class := -1; class <= 5; class++ {
			for _, exp := range []int{-1, 0, 1} {
				for _, frac := range []uint64{0, 1, 1 << 52, 1 << 53, 1 << 63} {
					p := Split(x)
					p.Class, p.Exp, p.Frac = class, p.Exp+exp, p.Frac^frac
					y, e := Join(p)
					if e == api.OK && Split(y) != p {
						t.Errorf("Join(%+v): %g, whose parts are %+v", p, y, Split(y))
					}
					if e != api.OK && (e != api.ErrParts || hex(y) != 0) {
						t.Errorf("Join(%+v): %g, error %d", p, y, e)
					}
				}
			}
		}
	}
}

// P1.3.
func TestNaN(t *testing.T) {
	if hex(NaN()) != 0x7FF8000000000000 {
		t.Errorf("NaN: %x", hex(NaN()))
	}
}

// P1.3.
func TestSame(t *testing.T) {
	l := some()
	for _, x := range l {
		for _, y := range l {
			want := hex(x) == hex(y) || x != x && y != y
			if Same(x, y) != want {
				t.Errorf("Same(%x, %x): %v", hex(x), hex(y), !want)
			}
		}
	}
	if Same(0, minus()) || Same(NaN(), inf(1)) || !Same(NaN(), math.Float64frombits(0xFFF0000000000001)) {
		t.Error("noughts, NaN")
	}
}

// P1.8: Split32 by the chapter's words; every exponent, both signs.
func TestSplit32OfAll(t *testing.T) {
	for e := range uint32(255) {
		for _, f := range []uint32{0, 1, 2, 0x2AAAAA, 1 << 22, 1<<23 - 1} {
			for _, sign := range []uint32{0, 1 << 31} {
				want := api.Parts{Neg: sign != 0, Class: api.Plain, Exp: int(e) - 150, Frac: uint64(f) + 1<<23}
				if e == 0 {
					want.Class, want.Exp, want.Frac = api.Small, -149, uint64(f)
				}
				if e == 0 && f == 0 {
					want.Class = api.Nought
				}
				x := math.Float32frombits(sign | e<<23 | f)
				sameParts(t, x, Split32(x), want)
			}
		}
	}
}

// P1.8, the chapter's examples, infinities, NaN.
func TestSplit32Examples(t *testing.T) {
	for _, c := range []struct {
		bits uint32
		want api.Parts
	}{
		{1, api.Parts{Class: api.Small, Frac: 1, Exp: -149}},
		{0x3F800000, api.Parts{Class: api.Plain, Frac: 1 << 23, Exp: -23}},
		{0x80000000, api.Parts{Neg: true, Class: api.Nought, Exp: -149}},
		{0x00800000, api.Parts{Class: api.Plain, Frac: 1 << 23, Exp: -149}},
		{0xFF7FFFFF, api.Parts{Neg: true, Class: api.Plain, Frac: 1<<24 - 1, Exp: 104}},
		{0x7F800000, api.Parts{Class: api.Endless}},
		{0xFF800000, api.Parts{Neg: true, Class: api.Endless}},
		{0x7FC00000, api.Parts{Class: api.Odd}},
		{0xFF800001, api.Parts{Class: api.Odd}},
		{0xFFFFFFFF, api.Parts{Class: api.Odd}},
	} {
		sameParts(t, c.bits, Split32(math.Float32frombits(c.bits)), c.want)
	}
}
