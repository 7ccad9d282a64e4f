package text

import (
	"math/big"
	"strconv"
	"strings"
	"testing"

	"steelyard/api"
)

const (
	topBits = endless - 1 // of the greatest
	signBit = 1 << 63
)

// each is a row of one number, whatever the mode.
func each(x float64) [5]uint64 { return [5]uint64{hex(x), hex(x), hex(x), hex(x), hex(x)} }

func tiny(neg bool) [5]uint64 {
	if neg {
		return [5]uint64{signBit, signBit, signBit, signBit | 1, signBit}
	}
	return [5]uint64{0, 0, 1, 0, 0}
}

func huge(neg bool) [5]uint64 {
	if neg {
		return [5]uint64{endless | signBit, topBits | signBit, topBits | signBit, endless | signBit, endless | signBit}
	}
	return [5]uint64{endless, topBits, endless, topBits, endless}
}

// P4.5: rows of bits by Even, Zero, Up, Down, Away; the chapter's examples among them.
func TestReadExamples(t *testing.T) {
	low, high := hex(0x1p53), hex(0x1p53+2)
	for s, row := range map[string][5]uint64{
		"0":                            each(0),
		"-0":                           each(nought(true)),
		"-000.00e99999999999999999999": each(nought(true)),
		"000.00e-99999999999999999999": each(0),
		"007.50":                       each(7.5),
		"7":                            each(7),
		"-7.0":                         each(-7),
		"0.5":                          each(0.5),
		"1e0":                          each(1),
		"1e+0":                         each(1),
		"1e-0":                         each(1),
		"1e00000":                      each(1),
		"12.5e1":                       each(125),
		"12.5e+01":                     each(125),
		"125e-1":                       each(12.5),
		"-125.00e-001":                 each(-12.5),
		"1e22":                         each(1e22),
		"0.1":                          {0x3FB999999999999A, 0x3FB9999999999999, 0x3FB999999999999A, 0x3FB9999999999999, 0x3FB999999999999A},
		"-0.1":                         {0xBFB999999999999A, 0xBFB9999999999999, 0xBFB9999999999999, 0xBFB999999999999A, 0xBFB999999999999A},
		"9007199254740993":             {low, low, high, low, high},
		"-9007199254740993":            {low | signBit, low | signBit, low | signBit, high | signBit, high | signBit},
		"9007199254740995":             {high + 1, high, high + 1, high, high + 1},
		"9007199254740993." + strings.Repeat("0", 1083) + "1": {high, low, high, low, high},
		"9007199254740992." + strings.Repeat("9", 1084):       {low, low, high, low, low},
		"9007199254740992." + strings.Repeat("0", 1083) + "1": {low, low, high, low, low},
		"1e-400":                  tiny(false),
		"-1e-400":                 tiny(true),
		"2.4703282292062327e-324": tiny(false),
		"2.4703282292062328e-324": {1, 0, 1, 0, 1},
		"7e-324":                  {1, 1, 2, 1, 1},
		"1e400":                   huge(false),
		"-1e400":                  huge(true),
		"1.7976931348623157e308":  {topBits, topBits - 1, topBits, topBits - 1, topBits},
		"1.7976931348623158e308":  {topBits, topBits, endless, topBits, topBits},
		"1.7976931348623159e308":  huge(false),
		"-1.7976931348623158e308": {topBits | signBit, topBits | signBit, topBits | signBit, endless | signBit, topBits | signBit},
		"nan":                     {answered, answered, answered, answered, answered},
		"inf":                     {endless, endless, endless, endless, endless},
		"-inf":                    {endless | signBit, endless | signBit, endless | signBit, endless | signBit, endless | signBit},
	} {
		for mode, want := range row {
			reads(t, s, mode, want)
		}
	}
}

// wrote is n times 2^-finest in decimal digits and a power of ten; with far, moved by so much in a digit far behind.
func wrote(n *big.Int, far int64) string {
	all := new(big.Int).Exp(big.NewInt(5), big.NewInt(finest), nil)
	s := all.Mul(all, n).String()
	digits := strings.TrimRight(s, "0")
	p := len(s) - len(digits) - finest
	if far != 0 {
		room := api.MaxDigits - len("2170") - len(digits)
		moved, _ := new(big.Int).SetString("0"+digits+strings.Repeat("0", room), 10)
		digits = moved.Add(moved, big.NewInt(far)).String()
		p -= room
	}
	return digits + "e" + strconv.Itoa(p)
}

// P4.5: at each edge and behind it: at it, in the lower half of the step, at the middle, beside it by one digit far behind, in the upper half; behind the greatest, too; by all modes, with and without the sign.
func TestReadBetweenNeighbours(t *testing.T) {
	for _, x := range append(edges(), 0) {
		b := hex(x)
		quarter := new(big.Int).Sub(steps(b+1), steps(b))
		quarter.Rsh(quarter, 2)
		v := []*big.Int{steps(b)}
		for range 4 {
			v = append(v, new(big.Int).Add(v[len(v)-1], quarter))
		}
		texts := map[string]int{
			wrote(v[0], 1): lower, wrote(v[1], 0): lower, wrote(v[2], -1): lower,
			wrote(v[2], 0): middleOf,
			wrote(v[2], 1): upper, wrote(v[3], 0): upper, wrote(v[4], -1): upper,
		}
		if x != 0 {
			texts[wrote(v[0], 0)] = at
		}
		for s, where := range texts {
			for mode := api.Even; mode <= api.Away; mode++ {
				reads(t, s, mode, taken(b, where, false, mode))
				reads(t, "-"+s, mode, taken(b, where, true, mode))
			}
		}
	}
}

// P4.5: what is about the ends of all numbers, by whole powers of ten: no place is taken for too far that is not.
func TestReadAboutTheEnds(t *testing.T) {
	for p := 300; p <= 420; p++ {
		for _, digits := range []string{"1", "17", "17976931348623157", "17976931348623159", "9999999999999999999999"} {
			bothEnds(t, digits, p-len(digits))
			bothEnds(t, digits+strings.Repeat("0", 700), p-len(digits)-700)
			bothEnds(t, digits, -p)
			bothEnds(t, digits+strings.Repeat("7", 700), -p-700)
		}
	}
}

func bothEnds(t *testing.T, digits string, p int) {
	t.Helper()
	n, _ := new(big.Int).SetString(digits, 10)
	v := bodyValue(n, p)
	s := digits + "e" + strconv.Itoa(p)
	for mode := api.Even; mode <= api.Away; mode++ {
		reads(t, s, mode, rounded(v, false, mode))
		reads(t, "-"+s, mode, rounded(v, true, mode))
	}
}

// P4.5: texts of any kind, by exact ratios.
func TestReadOfAll(t *testing.T) {
	d := dice(43)
	for range 1500 {
		whole, part := d.digits(1+d.below(25)), d.digits(d.below(25))
		if d.below(8) == 0 {
			part = d.digits(d.below(600))
		}
		p := d.below(80) - 40
		if d.below(2) == 0 {
			p = d.below(680) - 350
		}
		n, _ := new(big.Int).SetString(whole+part, 10)
		s := whole
		if part != "" {
			s += "." + part
		}
		s += "e" + strconv.Itoa(p)
		neg, mode := d.below(2) == 0, d.below(5)
		want := uint64(0)
		if n.Sign() > 0 {
			want = rounded(bodyValue(n, p-len(part)), false, mode)
		}
		if neg {
			s, want = "-"+s, signBit
			if n.Sign() > 0 {
				want = rounded(bodyValue(n, p-len(part)), true, mode)
			}
		}
		reads(t, s, mode, want)
	}
}

// endlessPowers stand behind e and are past all reach; some of them come to few, if they are held in a word that wraps round.
func endlessPowers() []string {
	return []string{
		"1000000", "2147483648", "4294967296", "4294967297", "9223372036854775807", "9223372036854775808", "18446744073709551615",
		"18446744073709551616", "18446744073709551617", "99999999999999999999", "340282366920938463463374607431768211456",
		strings.Repeat("9", 1000), "1" + strings.Repeat("0", 1000), "0000" + strings.Repeat("9", 900),
	}
}

// P4.5: powers of ten that have no end, beside nought and beside other digits.
func TestReadEndlessPowers(t *testing.T) {
	for _, p := range endlessPowers() {
		for mode := api.Even; mode <= api.Away; mode++ {
			for _, s := range []string{"0", "000", "0.0", "00.000"} {
				for _, sign := range []string{"e", "e+", "e-"} {
					reads(t, s+sign+p, mode, 0)
					reads(t, "-"+s+sign+p, mode, signBit)
				}
			}
			for _, s := range []string{"1", "9", "0.1", "0." + strings.Repeat("0", 80) + "1", "123" + strings.Repeat("0", 80), "00012.50"} {
				reads(t, s+"e"+p, mode, huge(false)[mode])
				reads(t, s+"e+"+p, mode, huge(false)[mode])
				reads(t, s+"e-"+p, mode, tiny(false)[mode])
				reads(t, "-"+s+"e"+p, mode, huge(true)[mode])
				reads(t, "-"+s+"e+"+p, mode, huge(true)[mode])
				reads(t, "-"+s+"e-"+p, mode, tiny(true)[mode])
			}
		}
	}
}

// P4.5: digits that bring back what a great power takes far off.
func TestReadFarDigits(t *testing.T) {
	for mode := api.Even; mode <= api.Away; mode++ {
		reads(t, "0."+strings.Repeat("0", 1090)+"5e1090", mode, hex(0.5))
		reads(t, "0."+strings.Repeat("0", 1090)+"5e+1091", mode, hex(5))
		reads(t, "-5"+strings.Repeat("0", 1090)+"e-1090", mode, hex(-5))
		reads(t, "5"+strings.Repeat("0", 1090)+"e-1091", mode, hex(0.5))
		reads(t, "0."+strings.Repeat("0", 1090)+"1e700", mode, tiny(false)[mode])
		reads(t, "1"+strings.Repeat("0", 1090)+"e-700", mode, huge(false)[mode])
		reads(t, "1e-"+strings.Repeat("0", 1090)+"0", mode, hex(1))
		reads(t, "5e-"+strings.Repeat("0", 1090)+"1", mode, rounded(big.NewRat(1, 2), false, mode))
	}
}
