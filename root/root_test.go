package root

import (
	"math"
	"math/big"
	"testing"

	"steelyard/api"
)

// P11.1: squares of numbers, of quarters of the way to the next one, of middles, and what lies just beside these, of many Nums and Dens.
func TestRootAtBounds(t *testing.T) {
	const deep = 1100
	for _, k := range kinds {
		k.around(deep, func(m *big.Int) {
			for i, d := range divisors() {
				for _, beside := range []int64{-1, 0, 1} {
					n := new(big.Int).Mul(m, m)
					n.Add(n.Mul(n, d), big.NewInt(beside))
					r := api.Ratio{Num: api.Dyad{Neg: n.Sign() < 0, Mag: words(n), Exp: 7*i - 2*deep}, Den: api.Dyad{Mag: words(d), Exp: 7 * i}}
					rootAs(t, r)
				}
			}
		})
	}
}

// P11.1: whatever the words are, in their form or not, odd and even Exps; below nought all is refused.
func TestRoot(t *testing.T) {
	for _, r := range someRatios() {
		rootAs(t, r)
		rootAs(t, api.Ratio{Num: less(r.Num), Den: r.Den})
	}
	d := dice(113)
	for i := range 1500 {
		r := d.ratio(1+i%7, 1200)
		r.Num.Neg = i%10 == 0
		rootAs(t, r)
		r = d.ratio(3, 200)
		r.Num.Neg = false
		rootAs(t, r)
		r.Num.Exp++
		rootAs(t, r)
	}
}

// P11.1: squares of small whole numbers by others, and their neighbours, with every Exp.
func TestRootOfSquares(t *testing.T) {
	for n := range 30 {
		for d := 1; d <= 12; d++ {
			for mode := range 5 {
				x, e := Root(by(n*n*d, d), mode)
				answers(t, "the root of a square", x, e, float64(n), api.OK)
				y, e := Root32(by(n*n*d, d), mode)
				answers32(t, "the root of a square", y, e, float32(n), api.OK)
			}
			x, e := Root(by(n*n, 4*4), api.Up)
			answers(t, "the root of a square by a square", x, e, float64(n)/4, api.OK)
			rootAs(t, by(n*n+1, d*d))
			rootAs(t, by(n*n+2*n, d*d))
		}
		x, e := Root(by(n, 1), api.Even)
		answers(t, "Even", x, e, math.Sqrt(float64(n)), api.OK)
	}
	for exp := -9; exp <= 9; exp++ {
		for _, mag := range []uint32{1, 2, 3, 4, 9, 25} {
			rootAs(t, over(dy(false, exp, mag)))
			rootAs(t, api.Ratio{Num: in(1), Den: dy(false, exp, mag)})
		}
	}
}

// P11.1: Nums and Dens at the limits, each by each.
func TestRootOfGreatOnes(t *testing.T) {
	for _, n := range great() {
		for _, d := range great() {
			rootAs(t, api.Ratio{Num: n, Den: d})
		}
		rootAs(t, api.Ratio{Num: less(n), Den: api.Dyad{Mag: ones(limit), Exp: 3}})
		rootAs(t, api.Ratio{Num: api.Dyad{Exp: 9}, Den: n})
	}
	d := dice(114)
	for i := range 12 {
		rootAs(t, api.Ratio{Num: api.Dyad{Mag: d.long(), Exp: i}, Den: api.Dyad{Mag: d.long()}})
		rootAs(t, api.Ratio{Num: api.Dyad{Mag: d.nat(1 + i), Exp: limit - 9}, Den: api.Dyad{Mag: d.long()}})
		rootAs(t, api.Ratio{Num: api.Dyad{Mag: d.long()}, Den: api.Dyad{Mag: append(d.nat(i), 7), Exp: limit + i}})
	}
}

// P11.1: Dens so long that nothing fits beside them, and Nums that are a number's square, or a middle's, times these, and just beside that.
func TestRootOfLongOnesAtMiddles(t *testing.T) {
	for _, bits := range []int{limit, limit - 1, limit - 48, limit - 49, limit - 106, limit - 107, limit - 108, limit - 128, limit - 129, limit - 130, limit - 131, limit - 200} {
		for _, k := range []int64{1, 3, 1<<24 + 1, 1<<25 - 1, 1<<53 - 1, 1<<53 + 1, 1<<54 + 2, 1<<54 - 1} {
			square := new(big.Int).Mul(big.NewInt(k), big.NewInt(k))
			if bits+square.BitLen() > limit+1 {
				continue
			}
			den := ones(bits)
			den[1] ^= 0x1234
			for _, more := range []int64{-2, 0, 2} {
				num := scaled(den, square, more)
				if len(num) <= api.MaxWords {
					rootAs(t, api.Ratio{Num: api.Dyad{Mag: num, Exp: -4}, Den: api.Dyad{Mag: den, Exp: 4}})
				}
			}
		}
	}
}

// By hand: roots that lie beyond the greatest number, and below the least one.
func TestRootFarOut(t *testing.T) {
	const least, most = 0x1p-1074, math.MaxFloat64
	inf := math.Inf(1)
	up, down := [5]float64{inf, most, inf, most, inf}, [5]float64{0, 0, least, 0, 0}
	for _, c := range []struct {
		name string
		r    api.Ratio
		is   [5]float64
	}{
		{"2^2048", over(two(2048)), up},
		{"2^2047", over(two(2047)), [5]float64{0x1.6a09e667f3bcdp1023, 0x1.6a09e667f3bccp1023, 0x1.6a09e667f3bcdp1023, 0x1.6a09e667f3bccp1023, 0x1.6a09e667f3bcdp1023}},
		{"2^2049 by 3", api.Ratio{Num: two(2049), Den: in(3)}, [5]float64{0x1.a20bd700c2c3ep1023, 0x1.a20bd700c2c3dp1023, 0x1.a20bd700c2c3ep1023, 0x1.a20bd700c2c3dp1023, 0x1.a20bd700c2c3ep1023}},
		{"the greatest Exps", api.Ratio{Num: two(api.MaxExp), Den: two(-api.MaxExp)}, up},
		{"the greatest of all", api.Ratio{Num: api.Dyad{Mag: ones(limit), Exp: api.MaxExp}, Den: dy(false, -api.MaxExp, 3)}, up},
		{"2^-2148", over(two(-2148)), [5]float64{least, least, least, least, least}},
		{"2^-2150", over(two(-2150)), [5]float64{0, 0, least, 0, least}},
		{"2^-2151", over(two(-2151)), down},
		{"2^-2149", over(two(-2149)), [5]float64{least, 0, least, 0, least}},
		{"the least Exps", api.Ratio{Num: two(-api.MaxExp), Den: two(api.MaxExp)}, down},
		{"the least of all", api.Ratio{Num: dy(false, -api.MaxExp, 3), Den: api.Dyad{Mag: ones(limit), Exp: api.MaxExp}}, down},
		{"nought", api.Ratio{Num: dy(true, 4, 0), Den: two(-api.MaxExp)}, [5]float64{}},
	} {
		for mode, is := range c.is {
			x, e := Root(c.r, mode)
			answers(t, "Root of "+c.name, x, e, is, api.OK)
		}
	}
	const least32, most32 = 0x1p-149, math.MaxFloat32
	up32 := float32(math.Inf(1))
	short := [5]float32{0, 0, least32, 0, least32}
	for mode, is := range [5]float32{up32, most32, up32, most32, up32} {
		x, e := Root32(over(two(256)), mode)
		answers32(t, "Root32 of 2^256", x, e, is, api.OK)
		x, e = Root32(over(two(-300)), mode)
		answers32(t, "Root32 of 2^-300", x, e, short[mode], api.OK)
	}
}

// What is below nought is refused, however little it is, by every mode.
func TestRootBelow(t *testing.T) {
	for mode := range 5 {
		for _, r := range []api.Ratio{by(-1, 4), over(less(two(-api.MaxExp))), {Num: less(two(-api.MaxExp)), Den: two(api.MaxExp)}, {Num: api.Dyad{Neg: true, Mag: ones(limit)}, Den: in(1)}, over(dy(true, 0, 0, 4, 0))} {
			x, e := Root(r, mode)
			answers(t, "Root", x, e, 0, api.ErrBelow)
			y, e := Root32(r, mode)
			answers32(t, "Root32", y, e, 0, api.ErrBelow)
		}
	}
}
