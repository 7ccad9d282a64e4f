package text

import (
	"math"
	"math/big"
	"strconv"
	"strings"
	"testing"

	"steelyard/api"
)

// P4.3: the chapter's examples; each way of writing at its ends.
func TestShortExamples(t *testing.T) {
	for _, c := range []struct {
		x    float64
		want string
	}{
		{0, "0"},
		{nought(true), "-0"},
		{0.1, "0.1"},
		{100, "100"},
		{-2.5, "-2.5"},
		{least, "5e-324"},
		{2 * least, "1e-323"},
		{3 * least, "1.5e-323"},
		{4 * least, "2e-323"},
		{greatest, "1.7976931348623157e+308"},
		{0x1p-1022, "2.2250738585072014e-308"},
		{0x1p-1022 - least, "2.225073858507201e-308"},
		{0x1p53, "9007199254740992"},
		{0x1p53 + 2, "9007199254740994"},
		{0.3, "0.3"},
		{0.1 + 0x1p-56, "0.10000000000000002"},
		{1e23, "1e+23"},
		{math.Nextafter(1e23, 0), "9.999999999999997e+22"},
		{math.Nextafter(1e23, 2e23), "1.0000000000000001e+23"},
		{0x1p-44, "5.684341886080802e-14"},
		{9.5, "9.5"},
		// P is -4, -3, -2, -1, 0
		{0.00001, "1e-05"},
		{0.000015, "1.5e-05"},
		{0.000099, "9.9e-05"},
		{0.00012345678901234567, "0.00012345678901234567"},
		{0.0001, "0.0001"},
		{0.00099, "0.00099"},
		{0.001, "0.001"},
		{0.01, "0.01"},
		{0.5, "0.5"},
		{0.12345678901234568, "0.12345678901234568"},
		{0.99, "0.99"},
		// P is 1 to 21, below k, k, above k
		{1, "1"},
		{9, "9"},
		{1.5, "1.5"},
		{10, "10"},
		{12, "12"},
		{12.5, "12.5"},
		{99.5, "99.5"},
		{1234567, "1234567"},
		{1234567.5, "1234567.5"},
		{123456789012345.62, "123456789012345.62"},
		{1234567890123456.8, "1234567890123456.8"},
		{12345678901234568, "12345678901234568"},
		{123456789012345680, "123456789012345680"},
		{123456789012345680000, "123456789012345680000"},
		{1e20, "100000000000000000000"},
		{5e20, "500000000000000000000"},
		{999999999999999900000, "999999999999999900000"},
		// P is 22 and more
		{1e21, "1e+21"},
		{1.5e21, "1.5e+21"},
		{1.2345678901234568e21, "1.2345678901234568e+21"},
		{1e22, "1e+22"},
		// powers of two digits and of more
		{1.5e-7, "1.5e-07"},
		{1e-9, "1e-09"},
		{1e-10, "1e-10"},
		{1e-99, "1e-99"},
		{1e-100, "1e-100"},
		{1e99, "1e+99"},
		{1e100, "1e+100"},
		{1.25e300, "1.25e+300"},
	} {
		if got := Short(c.x); got != c.want {
			t.Errorf("Short(%x): %s, want %s", c.x, got, c.want)
		}
	}
}

// P4.3: of two bodies as short and as near the one whose last digit is even.
func TestShortTies(t *testing.T) {
	for _, c := range []struct {
		x    float64
		want string
	}{
		{0x1p50 + 0.25, "1125899906842624.2"},
		{0x1p50 + 0.75, "1125899906842624.8"},
		{0x1p50 + 1.25, "1125899906842625.2"},
		{0x1p49 + 0.25, "562949953421312.2"},
		{0x1p49 + 0.75, "562949953421312.8"},
		{0x1p46 + 0.125, "70368744177664.12"},
		{0x1p46 + 0.375, "70368744177664.38"},
		{0x1p46 + 0.625, "70368744177664.62"},
		{0x1p46 + 0.875, "70368744177664.88"},
		{0x1p43 + 0.0625, "8796093022208.062"},
		{0x1p43 + 0.1875, "8796093022208.188"},
		// The same places, where it is no tie.
		{0x1p49 + 0.125, "562949953421312.1"},
		{0x1p49 + 0.375, "562949953421312.4"},
		{0x1p49 + 0.625, "562949953421312.6"},
	} {
		if got := Short(c.x); got != c.want {
			t.Errorf("Short(%x): %s, want %s", c.x, got, c.want)
		}
	}
}

// rat is x's value.
func rat(x float64) *big.Rat { return new(big.Rat).SetFloat64(x) }

// bodyValue is digits, as a whole number, times ten to the power of p.
func bodyValue(digits *big.Int, p int) *big.Rat {
	ten := new(big.Int).Exp(big.NewInt(10), big.NewInt(int64(max(p, -p))), nil)
	if p < 0 {
		return new(big.Rat).SetFrac(digits, ten)
	}
	return new(big.Rat).SetInt(ten.Mul(ten, digits))
}

// around are bodies of k digits on either side of x, as whole numbers and the power of ten that they count: some of each side.
func around(x float64, k int) (bodies []*big.Int, p int) {
	s := strconv.FormatFloat(x, 'e', 800, 64)
	at := strings.IndexByte(s, 'e')
	power, _ := strconv.Atoi(s[at+1:])
	cut := strings.Replace(s[:at], ".", "", 1)[:k]
	first, _ := new(big.Int).SetString(cut, 10)
	for i := int64(-2); i <= 3; i++ {
		if n := new(big.Int).Add(first, big.NewInt(i)); n.Sign() > 0 {
			bodies = append(bodies, n)
		}
	}
	return bodies, power + 1 - k
}

// shortly is what P4.3 says of bodies: those of the fewest digits that the library reads as x, the nearest of them, of two as near the even one.
func shortly(x float64) *big.Rat {
	for k := 1; ; k++ {
		var best, far *big.Rat
		bodies, p := around(x, k)
		for _, n := range bodies {
			if y, _ := strconv.ParseFloat(n.String()+"e"+strconv.Itoa(p), 64); y != x {
				continue
			}
			v := bodyValue(n, p)
			off := new(big.Rat).Sub(v, rat(x))
			off.Abs(off)
			if best == nil || off.Cmp(far) < 0 || off.Cmp(far) == 0 && n.Bit(0) == 0 {
				best, far = v, off
			}
		}
		if best != nil {
			return best
		}
	}
}

// written is v, which a body of digits stands for, written as P4.3 says.
func written(v *big.Rat) string {
	d := strings.TrimRight(strings.Replace(v.FloatString(400), ".", "", 1), "0")
	p := strings.IndexByte(v.FloatString(400), '.')
	for d[0] == '0' {
		d, p = d[1:], p-1
	}
	k := len(d)
	switch {
	case p >= -3 && p <= 0:
		return "0." + strings.Repeat("0", -p) + d
	case p >= 1 && p <= 21 && p < k:
		return d[:p] + "." + d[p:]
	case p >= k && p <= 21:
		return d + strings.Repeat("0", p-k)
	}
	e := strconv.FormatFloat(math.Abs(float64(p-1)), 'f', -1, 64)
	if len(e) == 1 {
		e = "0" + e
	}
	if p-1 < 0 {
		e = "-" + e
	} else {
		e = "+" + e
	}
	if k > 1 {
		d = d[:1] + "." + d[1:]
	}
	return d + "e" + e
}

// P4.3, by the library's reader and exact values; P4.6: read by Even it is the number.
func TestShortOfAll(t *testing.T) {
	l := numbers(1500)
	for i, x := range powersOfTwo() {
		if i%5 == 1 || i < 50 {
			l = append(l, x)
		}
	}
	for p := -323; p <= 308; p += 3 {
		x, _ := strconv.ParseFloat("1e"+strconv.Itoa(p), 64)
		l = append(l, x, math.Nextafter(x, 0), math.Nextafter(x, 1e308))
	}
	for _, x := range l {
		if x == 0 {
			continue
		}
		s := Short(x)
		if want := written(shortly(x)); s != want {
			t.Errorf("Short(%x): %s, want %s", x, s, want)
		}
		reads(t, s, api.Even, hex(x))
		reads(t, Short(-x), api.Even, hex(-x))
	}
}

// P4.6: noughts, infinities, NaN go there and back; all powers of two and their neighbours do.
func TestShortIsRead(t *testing.T) {
	for _, x := range append(powersOfTwo(), 0, math.Inf(1)) {
		reads(t, Short(x), api.Even, hex(x))
	}
	reads(t, Short(nought(true)), api.Even, 1<<63)
	reads(t, Short(math.Inf(-1)), api.Even, endless|1<<63)
	for _, x := range odds() {
		reads(t, Short(x), api.Even, answered)
	}
}

// P4.6: no body with fewer digits is read as x by Even: those next to x on either side are not.
func TestNothingIsShorter(t *testing.T) {
	for _, x := range numbers(1500) {
		digits, _, _ := strings.Cut(Short(x), "e")
		k := len(strings.Trim(strings.Replace(digits, ".", "", 1), "0"))
		if k == 1 {
			continue
		}
		bodies, p := around(x, k-1)
		for _, n := range bodies {
			s := n.String() + "e" + strconv.Itoa(p)
			if y, e := Read(s, api.Even); e != api.OK || y == x {
				t.Errorf("Short(%x) is %s, but %s is read as %x, error %d", x, Short(x), s, y, e)
			}
		}
	}
}
