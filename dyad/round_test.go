package dyad

import (
	"math"
	"math/big"
	"testing"

	"steelyard/api"
)

// kind is a kind of numbers by its bits alone: fracs of them are the fraction's, and all that stands ahead of endless is finite.
type kind struct {
	fracs   uint
	least   int
	endless uint64
	sign    uint64
}

var kinds = [2]kind{{52, -1074, 0x7FF << 52, 1 << 63}, {23, -149, 0xFF << 23, 1 << 31}}

// worth is the size that chapter 1's words give to bits; those of the infinity stand for the number that would follow the greatest.
func (k kind) worth(b uint64) value {
	e, f := int(b>>k.fracs), b&(1<<k.fracs-1)
	if e > 0 {
		f, e = f|1<<k.fracs, e-1
	}
	return value{new(big.Int).SetUint64(f), big.NewInt(int64(e + k.least))}
}

// rounded is what P3.6's table says, as bits; the neighbours are looked up among all numbers.
func (k kind) rounded(a api.Dyad, mode int) uint64 {
	v := valueOf(a)
	if v.m.Sign() == 0 {
		return 0
	}
	neg, sign := false, uint64(0)
	if v.m.Sign() < 0 {
		neg, sign = true, k.sign
	}
	v.m.Abs(v.m)
	in, out := uint64(0), k.endless
	if stands(v, k.worth(k.endless)) >= 0 {
		in = k.endless - 1
	}
	for out-in > 1 {
		if mid := in + (out-in)/2; stands(k.worth(mid), v) <= 0 {
			in = mid
		} else {
			out = mid
		}
	}
	if stands(k.worth(in), v) == 0 {
		return in | sign
	}
	// The middle, in halves of the step: the sum of the two.
	low, high := k.worth(in), k.worth(out)
	exp := big.NewInt(int64(k.least))
	sum := new(big.Int).Add(level(low, exp), level(high, exp))
	half := stands(v, value{sum, new(big.Int).Sub(exp, big.NewInt(1))})
	pick := [...]uint64{api.Even: in, api.Zero: in, api.Up: out, api.Down: in, api.Away: in}
	if neg {
		pick[api.Up], pick[api.Down] = in, out
	}
	if half > 0 {
		pick[api.Even], pick[api.Away] = out, out
	}
	if half == 0 {
		pick[api.Even], pick[api.Away] = in+in%2, out
	}
	return pick[mode] | sign
}

// roundsAs fails unless all modes answer as the table says, in both widths.
func roundsAs(t *testing.T, a api.Dyad) {
	t.Helper()
	for mode := api.Even; mode <= api.Away; mode++ {
		x, e := Round(a, mode)
		if want := kinds[0].rounded(a, mode); math.Float64bits(x) != want || e != api.OK {
			t.Errorf("Round(%s, %d): %x, error %d; want %x", brief(a), mode, math.Float64bits(x), e, want)
		}
		y, e := Round32(a, mode)
		if want := kinds[1].rounded(a, mode); uint64(math.Float32bits(y)) != want || e != api.OK {
			t.Errorf("Round32(%s, %d): %x, error %d; want %x", brief(a), mode, math.Float32bits(y), e, want)
		}
	}
}

// bounds are bits at which something turns: nought, LEAST, the least plain one, powers of two, 1, MOST.
func (k kind) bounds() []uint64 {
	l := []uint64{0, 1, 2, 3, 1<<k.fracs - 2, 1<<k.fracs - 1, 1 << k.fracs, 1<<k.fracs + 1, 2<<k.fracs - 1, 2 << k.fracs}
	one := k.endless >> (k.fracs + 1) << k.fracs
	return append(l, one-2, one-1, one, one+1, one+2, one+1<<k.fracs-1, k.endless-1<<k.fracs, k.endless-3, k.endless-2, k.endless-1)
}

// P3.6: numbers, quarters of the way to the next one, halves, and what lies far below a step on either side of these, above nought and below it.
func TestRoundAtBounds(t *testing.T) {
	const deep = 1400
	tiny := [...]int64{-1, 0, 1}
	for _, k := range kinds {
		for _, b := range k.bounds() {
			exp := big.NewInt(-deep)
			low, high := level(k.worth(b), exp), level(k.worth(b+1), exp)
			quarter := new(big.Int).Rsh(new(big.Int).Sub(high, low), 2)
			for range 5 {
				for _, by := range tiny {
					m := new(big.Int).Add(low, big.NewInt(by))
					roundsAs(t, api.Dyad{Neg: m.Sign() < 0, Mag: words(m), Exp: -deep})
					roundsAs(t, api.Dyad{Neg: m.Sign() >= 0, Mag: append(words(m), 0, 0), Exp: -deep})
				}
				low.Add(low, quarter)
			}
		}
	}
}

// P3.6: whatever the words are, in their form or not, of many words and of few, far above and far below.
func TestRound(t *testing.T) {
	for _, a := range append(some(), great()...) {
		roundsAs(t, a)
	}
	d := dice(36)
	for i := range 3000 {
		roundsAs(t, d.dyad(1+i%6, 1300))
		roundsAs(t, d.dyad(3, 220))
	}
	for _, exp := range []int{-1077, -1076, -1075, -1074, -1073, -152, -151, -150, -149, -148, 127, 128, 129, 970, 971, 1022, 1023, 1024, 1025, 2000, -2000} {
		for _, mag := range []uint32{1, 3, 5, 7} {
			roundsAs(t, dy(false, exp, mag))
			roundsAs(t, dy(true, exp, mag))
			roundsAs(t, dy(true, exp-1, 2*mag, 0))
		}
	}
}

// row is what the five modes answer, one behind the other.
func row(t *testing.T, name string, a api.Dyad, want [5]float64) {
	t.Helper()
	for mode, w := range want {
		if x, e := Round(a, mode); e != api.OK || math.Float64bits(x) != math.Float64bits(w) {
			t.Errorf("Round of %s, mode %d: %x, error %d; want %x", name, mode, x, e, w)
		}
	}
}

func row32(t *testing.T, name string, a api.Dyad, want [5]float32) {
	t.Helper()
	for mode, w := range want {
		if x, e := Round32(a, mode); e != api.OK || math.Float32bits(x) != math.Float32bits(w) {
			t.Errorf("Round32 of %s, mode %d: %x, error %d; want %x", name, mode, x, e, w)
		}
	}
}

// P3.6: the chapter's examples 5 to 7, and each row of its table.
func TestRoundExamples(t *testing.T) {
	const least, most = 0x1p-1074, math.MaxFloat64
	minus, inf := math.Copysign(0, -1), math.Inf(1)
	row(t, "2^53 + 1", dy(false, 0, 1, 1<<21), [5]float64{1 << 53, 1 << 53, 1<<53 + 2, 1 << 53, 1<<53 + 2})
	row(t, "-(2^53 + 1)", dy(true, 0, 1, 1<<21), [5]float64{-1 << 53, -1 << 53, -1 << 53, -1<<53 - 2, -1<<53 - 2})
	row(t, "2^53 + 3", dy(false, 0, 3, 1<<21), [5]float64{1<<53 + 4, 1<<53 + 2, 1<<53 + 4, 1<<53 + 2, 1<<53 + 4})
	row(t, "nought", dy(true, 1, 0), [5]float64{})
	row(t, "a number", dy(true, -3, 5), [5]float64{-0.625, -0.625, -0.625, -0.625, -0.625})
	row(t, "LEAST", two(-1074), [5]float64{least, least, least, least, least})
	row(t, "2^-1075", two(-1075), [5]float64{0, 0, least, 0, least})
	row(t, "-2^-1075", less(two(-1075)), [5]float64{minus, minus, minus, -least, -least})
	row(t, "3 times 2^-1075", dy(false, -1075, 3), [5]float64{2 * least, least, 2 * least, least, 2 * least})
	row(t, "3 times 2^-1076", dy(false, -1076, 3), [5]float64{least, 0, least, 0, least})
	row(t, "-2^-1076", less(two(-1076)), [5]float64{minus, minus, minus, -least, minus})
	row(t, "far below", two(-api.MaxExp), [5]float64{0, 0, least, 0, 0})
	row(t, "far below, below nought", less(two(-api.MaxExp)), [5]float64{minus, minus, minus, -least, minus})
	row(t, "MOST", dy(false, 971, full, 1<<21-1), [5]float64{most, most, most, most, most})

	middle, _ := Sub(two(1024), two(970))
	ahead, _ := Sub(middle, two(0))
	behind, _ := Add(middle, two(0))
	row(t, "the middle", middle, [5]float64{inf, most, inf, most, inf})
	row(t, "the middle, below nought", less(middle), [5]float64{-inf, -most, -most, -inf, -inf})
	row(t, "the middle less 1", ahead, [5]float64{most, most, inf, most, most})
	row(t, "the middle less 1, below nought", less(ahead), [5]float64{-most, -most, -most, -inf, -most})
	row(t, "the middle and 1", behind, [5]float64{inf, most, inf, most, inf})
	row(t, "TOP", two(1024), [5]float64{inf, most, inf, most, inf})
	row(t, "-TOP", less(two(1024)), [5]float64{-inf, -most, -most, -inf, -inf})
	row(t, "far beyond", api.Dyad{Mag: ones(limit), Exp: api.MaxExp}, [5]float64{inf, most, inf, most, inf})
	row(t, "far beyond, below nought", less(two(api.MaxExp)), [5]float64{-inf, -most, -most, -inf, -inf})
}

// P3.6: the chapter's example 8, and the same bounds in 32 bits.
func TestRound32Examples(t *testing.T) {
	const least, most = 0x1p-149, math.MaxFloat32
	minus, inf := float32(math.Copysign(0, -1)), float32(math.Inf(1))
	row32(t, "2^24 + 1", dy(false, 0, 1<<24+1), [5]float32{1 << 24, 1 << 24, 1<<24 + 2, 1 << 24, 1<<24 + 2})
	row32(t, "2^-150", two(-150), [5]float32{0, 0, least, 0, least})
	row32(t, "-2^-150", less(two(-150)), [5]float32{minus, minus, minus, -least, -least})
	row32(t, "3 times 2^-150", dy(false, -150, 3), [5]float32{2 * least, least, 2 * least, least, 2 * least})
	row32(t, "nought", dy(true, 9), [5]float32{})
	row32(t, "far below", less(two(-api.MaxExp)), [5]float32{minus, minus, minus, -least, minus})
	row32(t, "MOST", dy(false, 104, 1<<24-1), [5]float32{most, most, most, most, most})
	row32(t, "the middle", dy(false, 103, 1<<25-1), [5]float32{inf, most, inf, most, inf})
	ahead, _ := Sub(dy(false, 103, 1<<25-1), two(-40))
	row32(t, "just ahead of the middle", ahead, [5]float32{most, most, inf, most, most})
	row32(t, "TOP", two(128), [5]float32{inf, most, inf, most, inf})
	row32(t, "-TOP", less(two(128)), [5]float32{-inf, -most, -most, -inf, -inf})
	row32(t, "beyond 64 bits", less(two(1024)), [5]float32{-inf, -most, -most, -inf, -inf})
	// Rounded to 64 bits first, this would become a tie.
	row32(t, "2^24 + 1 and a little", dy(false, -80, 1, 0, 1<<16, 1<<8), [5]float32{1<<24 + 2, 1 << 24, 1<<24 + 2, 1 << 24, 1<<24 + 2})
	row32(t, "2^24 + 1 less a little", dy(false, -80, full, full, 1<<16-1, 1<<8), [5]float32{1 << 24, 1 << 24, 1<<24 + 2, 1 << 24, 1 << 24})
}

// P3.6: a wrong mode comes ahead of all else; then what may not be.
func TestRoundRefuses(t *testing.T) {
	for _, mode := range []int{-1, 5, 6, math.MinInt, math.MaxInt} {
		for _, a := range []api.Dyad{{}, two(0), two(api.MaxExp + 1)} {
			x, e := Round(a, mode)
			y, e32 := Round32(a, mode)
			if math.Float64bits(x) != 0 || math.Float32bits(y) != 0 || e != api.ErrArg || e32 != api.ErrArg {
				t.Errorf("mode %d of %s: %v, error %d; %v, error %d", mode, brief(a), x, e, y, e32)
			}
		}
	}
	for _, a := range past() {
		for mode := api.Even; mode <= api.Away; mode++ {
			x, e := Round(a, mode)
			y, e32 := Round32(a, mode)
			if math.Float64bits(x) != 0 || math.Float32bits(y) != 0 || e != api.ErrLong || e32 != api.ErrLong {
				t.Errorf("%s by %d: %v, error %d; %v, error %d", brief(a), mode, x, e, y, e32)
			}
		}
	}
}
