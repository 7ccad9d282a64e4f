package root

import (
	"math"
	"math/big"
	"testing"

	"steelyard/api"
)

// P11.1: numbers, quarters of the way to the next one, middles, and what lies just beside them, of either sign, of many Nums and Dens.
func TestQuotAtBounds(t *testing.T) {
	const deep = 1100
	for _, k := range kinds {
		k.around(deep, func(m *big.Int) {
			for i, d := range divisors() {
				for _, beside := range []int64{-1, 0, 1} {
					n := new(big.Int).Mul(m, d)
					n.Add(n, big.NewInt(beside))
					r := api.Ratio{Num: api.Dyad{Neg: n.Sign() < 0, Mag: words(n), Exp: 7*i - deep}, Den: api.Dyad{Mag: words(d), Exp: 7 * i}}
					quotAs(t, r)
					quotAs(t, api.Ratio{Num: less(r.Num), Den: r.Den})
				}
			}
		})
	}
}

// P11.1: whatever the words are, in their form or not, of many words and of few.
func TestQuot(t *testing.T) {
	for _, r := range someRatios() {
		quotAs(t, r)
	}
	d := dice(111)
	for i := range 1500 {
		quotAs(t, d.ratio(1+i%7, 600))
		quotAs(t, d.ratio(3, 110))
	}
}

// P11.1: quotients of small whole numbers, whole ones among them.
func TestQuotOfWholeNumbers(t *testing.T) {
	for n := -20; n <= 20; n++ {
		for d := 1; d <= 20; d++ {
			quotAs(t, by(n, d))
			for mode := range 5 {
				x, e := Quot(by(n*d, d), mode)
				answers(t, "a whole quotient", x, e, float64(n)+0, api.OK)
			}
			x, e := Quot(by(n, d), api.Even)
			answers(t, "Even", x, e, float64(n)/float64(d)+0, api.OK)
			y, e := Quot32(by(n, d), api.Even)
			answers32(t, "Even", y, e, float32(n)/float32(d)+0, api.OK)
		}
	}
}

// P11.1: Nums and Dens at the limits, each by each, of either sign: whatever room package wide has, a quotient is told.
func TestQuotOfGreatOnes(t *testing.T) {
	for _, n := range great() {
		for _, d := range great() {
			quotAs(t, api.Ratio{Num: n, Den: d})
		}
		quotAs(t, api.Ratio{Num: less(n), Den: api.Dyad{Mag: ones(limit), Exp: 3}})
		quotAs(t, api.Ratio{Num: api.Dyad{Exp: 9}, Den: n})
	}
	d := dice(112)
	for i := range 12 {
		quotAs(t, api.Ratio{Num: api.Dyad{Neg: i%2 == 1, Mag: d.long()}, Den: api.Dyad{Mag: d.long()}})
		quotAs(t, api.Ratio{Num: api.Dyad{Mag: d.nat(1 + i), Exp: limit - 9}, Den: api.Dyad{Mag: d.long()}})
		quotAs(t, api.Ratio{Num: api.Dyad{Mag: d.long()}, Den: api.Dyad{Mag: append(d.nat(i), 7), Exp: limit + i}})
	}
}

// P11.1: Dens so long that nothing fits beside them, and Nums that are a number, or a middle, times these, and just beside that.
func TestQuotOfLongOnesAtMiddles(t *testing.T) {
	for _, bits := range []int{limit, limit - 1, limit - 23, limit - 24, limit - 25, limit - 52, limit - 53, limit - 54, limit - 63, limit - 64, limit - 65, limit - 66, limit - 128, limit - 200} {
		for _, k := range []int64{1, 3, 1<<24 + 1, 1<<25 + 2, 1<<25 + 6, 1<<25 - 1, 1<<53 - 1, 1<<53 + 1, 1<<54 + 2, 1<<54 + 6, 1<<54 - 1} {
			times := big.NewInt(k)
			if bits+times.BitLen() > limit+1 {
				continue
			}
			den := ones(bits)
			den[1] ^= 0x1234
			for _, more := range []int64{-2, 0, 2} {
				num := scaled(den, times, more)
				if len(num) <= api.MaxWords {
					quotAs(t, api.Ratio{Num: api.Dyad{Neg: more > 0 && k == 3, Mag: num, Exp: -4}, Den: api.Dyad{Mag: den, Exp: 4}})
				}
			}
		}
	}
}

// By hand: a quotient so near to one that only the lowest bits of the longest Nums and Dens tell.
func TestQuotOfLongOnesByHand(t *testing.T) {
	q, p := ones(limit), ones(limit)
	p[0] -= 2
	for _, c := range []struct {
		name     string
		num, den api.Nat
		is       [5]float64
	}{
		{"just one", q, q, [5]float64{1, 1, 1, 1, 1}},
		{"just below one", p, q, [5]float64{1, 1 - 0x1p-53, 1, 1 - 0x1p-53, 1}},
		{"just above one", q, p, [5]float64{1, 1, 1 + 0x1p-52, 1, 1}},
	} {
		for mode, is := range c.is {
			x, e := Quot(api.Ratio{Num: api.Dyad{Mag: c.num}, Den: api.Dyad{Mag: c.den}}, mode)
			answers(t, c.name, x, e, is, api.OK)
		}
	}
}

// By hand: what lies beyond the greatest numbers, below the least ones, and far out, by every mode.
func TestQuotFarOut(t *testing.T) {
	const least, most, least32, most32 = 0x1p-1074, math.MaxFloat64, 0x1p-149, math.MaxFloat32
	inf, minus := math.Inf(1), math.Copysign(0, -1)
	up := [5]float64{inf, most, inf, most, inf}
	down := [5]float64{-inf, -most, -most, -inf, -inf}
	above, below := [5]float64{0, 0, least, 0, 0}, [5]float64{minus, minus, minus, -least, minus}
	for _, c := range []struct {
		name string
		r    api.Ratio
		is   [5]float64
	}{
		{"2^1024", over(two(1024)), up},
		{"-2^1024", over(less(two(1024))), down},
		{"3 by 2^-1030", api.Ratio{Num: in(3), Den: two(-1030)}, up},
		{"2^1026 by 3", api.Ratio{Num: two(1026), Den: in(3)}, up},
		{"2^1025 by 3", api.Ratio{Num: two(1025), Den: in(3)}, [5]float64{0x1.5555555555555p1023, 0x1.5555555555555p1023, 0x1.5555555555556p1023, 0x1.5555555555555p1023, 0x1.5555555555555p1023}},
		{"the greatest Exps", api.Ratio{Num: two(api.MaxExp), Den: two(-api.MaxExp)}, up},
		{"the greatest Exps, below nought", api.Ratio{Num: less(two(api.MaxExp)), Den: two(-api.MaxExp)}, down},
		{"the greatest of all", api.Ratio{Num: api.Dyad{Mag: ones(limit), Exp: api.MaxExp}, Den: dy(false, -api.MaxExp, 3)}, up},
		{"the least Exps", api.Ratio{Num: two(-api.MaxExp), Den: two(api.MaxExp)}, above},
		{"the least Exps, below nought", api.Ratio{Num: less(two(-api.MaxExp)), Den: two(api.MaxExp)}, below},
		{"the least of all", api.Ratio{Num: dy(true, -api.MaxExp, 3), Den: api.Dyad{Mag: ones(limit), Exp: api.MaxExp}}, below},
		{"2^-1075", over(two(-1075)), [5]float64{0, 0, least, 0, least}},
		{"-2^-1075", over(less(two(-1075))), [5]float64{minus, minus, minus, -least, -least}},
		{"2^-1074 by 3", api.Ratio{Num: two(-1074), Den: in(3)}, above},
		{"2^-1073 by 3", api.Ratio{Num: two(-1073), Den: in(3)}, [5]float64{least, 0, least, 0, least}},
		{"-2^-1073 by 3", api.Ratio{Num: less(two(-1073)), Den: in(3)}, [5]float64{-least, minus, minus, -least, -least}},
	} {
		for mode, is := range c.is {
			x, e := Quot(c.r, mode)
			answers(t, "Quot of "+c.name, x, e, is, api.OK)
		}
	}
	up32, short := float32(math.Inf(1)), [5]float32{0, 0, least32, 0, 0}
	for mode, is := range [5]float32{up32, most32, up32, most32, up32} {
		for _, r := range []api.Ratio{over(two(128)), {Num: two(200), Den: in(3)}, {Num: two(api.MaxExp), Den: two(-api.MaxExp)}} {
			x, e := Quot32(r, mode)
			answers32(t, "Quot32 far up", x, e, is, api.OK)
		}
		x, e := Quot32(api.Ratio{Num: two(-149), Den: in(3)}, mode)
		answers32(t, "Quot32 of 2^-149 by 3", x, e, short[mode], api.OK)
		x, e = Quot32(api.Ratio{Num: two(-api.MaxExp), Den: two(api.MaxExp)}, mode)
		answers32(t, "Quot32 far down", x, e, short[mode], api.OK)
	}
}

// P11.1: once is once: what lies just above a middle of 32 bits, by less than 64 bits tell, is not taken to the middle first.
func TestQuot32IsRoundedOnce(t *testing.T) {
	for _, by := range []int{-60, -100, -3000} {
		n := valueOf(dy(false, -24, 1<<24+1))
		beside := level(n, by)
		for _, more := range []int64{-1, 0, 1} {
			m := new(big.Int).Add(beside, big.NewInt(more))
			is := float32(1)
			if more > 0 {
				is = 1 + 0x1p-23
			}
			x, e := Quot32(api.Ratio{Num: api.Dyad{Mag: words(new(big.Int).Mul(m, big.NewInt(3))), Exp: by}, Den: in(3)}, api.Even)
			answers32(t, "about a middle", x, e, is, api.OK)
		}
	}
}
