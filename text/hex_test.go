package text

import (
	"math"
	"strconv"
	"strings"
	"testing"

	"steelyard/api"
)

// calls are the three that tell a number.
func calls() map[string]func(float64) string {
	return map[string]func(float64) string{"Hex": Hex, "Short": Short, "Exact": Exact}
}

// P4.1: NaN of whatever bits, infinities.
func TestSpecials(t *testing.T) {
	for name, call := range calls() {
		for _, x := range odds() {
			if got := call(x); got != "nan" {
				t.Errorf("%s of the NaN %x: %s", name, hex(x), got)
			}
		}
		if up, down := call(math.Inf(1)), call(math.Inf(-1)); up != "inf" || down != "-inf" {
			t.Errorf("%s of the infinities: %s, %s", name, up, down)
		}
	}
}

// P4.1: what is told of -x is a sign and what is told of x, of noughts too.
func TestSigns(t *testing.T) {
	for name, call := range calls() {
		for _, x := range append(numbers(500), 0, math.Inf(1)) {
			got, size := call(math.Copysign(x, -1)), call(x)
			if got != "-"+size || strings.HasPrefix(size, "-") {
				t.Errorf("%s of %x: %s, of -x %s", name, x, size, got)
			}
		}
	}
}

// P4.2: the chapter's examples; none, one and thirteen sixteenths; powers of two digits and of more.
func TestHexExamples(t *testing.T) {
	for _, c := range []struct {
		x    float64
		want string
	}{
		{0, "0x0p+00"},
		{nought(true), "-0x0p+00"},
		{1, "0x1p+00"},
		{-1.5, "-0x1.8p+00"},
		{0.1, "0x1.999999999999ap-04"},
		{least, "0x1p-1074"},
		{2 * least, "0x1p-1073"},
		{3 * least, "0x1.8p-1073"},
		{0x1p-1022 - least, "0x1.ffffffffffffep-1023"},
		{0x1p-1022, "0x1p-1022"},
		{0x1p-1022 + least, "0x1.0000000000001p-1022"},
		{greatest, "0x1.fffffffffffffp+1023"},
		{-greatest, "-0x1.fffffffffffffp+1023"},
		{0x1p1023, "0x1p+1023"},
		{17, "0x1.1p+04"},
		{1.9375, "0x1.fp+00"},
		{1 + 0x1p-52, "0x1.0000000000001p+00"},
		{1 - 0x1p-53, "0x1.fffffffffffffp-01"},
		{0x1p9, "0x1p+09"},
		{0x1p10, "0x1p+10"},
		{0x1p99, "0x1p+99"},
		{0x1p100, "0x1p+100"},
		{0x1p-9, "0x1p-09"},
		{0x1p-10, "0x1p-10"},
		{0x1p-99, "0x1p-99"},
		{0x1p-100, "0x1p-100"},
		{0x1p-999, "0x1p-999"},
		{0x1p-1000, "0x1p-1000"},
		{0x1.abcdefp+7, "0x1.abcdefp+07"},
	} {
		if got := Hex(c.x); got != c.want {
			t.Errorf("Hex(%x): %s, want %s", c.x, got, c.want)
		}
		if x, e := Unhex(c.want); hex(x) != hex(c.x) || e != api.OK {
			t.Errorf("Unhex(%s): %x, error %d", c.want, x, e)
		}
	}
}

// P4.2, P4.6: the library writes the same form; Unhex of it is the number.
func TestHexOfAll(t *testing.T) {
	for _, x := range append(powersOfTwo(), numbers(5000)...) {
		for _, y := range []float64{x, -x} {
			s := Hex(y)
			if want := strconv.FormatFloat(y, 'x', -1, 64); s != want {
				t.Errorf("Hex: %s, want %s", s, want)
			}
			if z, e := Unhex(s); hex(z) != hex(y) || e != api.OK {
				t.Errorf("Unhex(%s): %x, error %d", s, z, e)
			}
		}
	}
}

// P4.2, P4.6: of what has no digits.
func TestUnhexSpecials(t *testing.T) {
	for s, want := range map[string]uint64{"nan": answered, "inf": endless, "-inf": endless | 1<<63, "0x0p+00": 0, "-0x0p+00": 1 << 63} {
		if x, e := Unhex(s); hex(x) != want || e != api.OK {
			t.Errorf("Unhex(%s): %x, error %d; want %x", s, hex(x), e, want)
		}
	}
}

func unhexRefuses(t *testing.T, s string) {
	t.Helper()
	if x, e := Unhex(s); hex(x) != 0 || e != api.ErrForm {
		t.Errorf("Unhex(%q): %x, error %d; want +0, ErrForm", brief(s), x, e)
	}
}

// P4.2: texts that no number has.
func TestUnhexRefuses(t *testing.T) {
	for _, s := range []string{
		"", "-", "0x", "x", "p", ".", "1", "0", "0x1", "0x0", "-0x0", "0x1p", "0x1p+", "0x1.p+00", "0x.8p+00", "p+00", "0xp+00", "1p+00", "0x1.8",
		// noughts at the end
		"0x1.80p+00", "0x1.0p+00", "0x1.00p+00", "0x0.0p+00", "0x1.0000000000000p+00", "0x1.99999999999900p-04",
		// more sixteenths than there are
		"0x1.00000000000001p+00", "0x1.999999999999a0p-04", "0x1.999999999999a8p-04", "0x10000000000000000000p+00", "0x100000000000000001p+00",
		// great letters
		"0X1p+00", "0x1P+00", "0x1.999999999999Ap-04", "0x1.Fp+00", "NaN", "NAN", "Inf", "INF", "-Inf",
		// another first digit
		"0x0.8p-01", "0x2p+00", "0x3p+00", "0xfp+00", "0x8p-03", "0x01p+00", "0x10p+00", "0x11p+00", "0x1.1.1p+00", "0x18p-04",
		// powers
		"0x1p+0", "0x1p-4", "0x1.8p+1", "0x1p+001", "0x1p-004", "0x1p+0100", "0x1p-01074", "0x1p-00", "0x0p-00", "-0x0p-00", "0x0p+01", "0x0p+0", "0x0p+000", "0x1p00", "0x1p++00", "0x1p+-04", "0x1p-+04", "0x1p0+0", "0x1p+00p+00", "0x1p+0a",
		// out of reach
		"0x1p+1024", "0x1.8p+1024", "0x1p+1025", "0x1p+9999", "0x1p-1075", "0x1.8p-1075", "0x1.8p-1074", "0x1.4p-1073", "0x1.fffffffffffffp-1023", "0x1p-9999",
		"0x1p+1048577", "0x1p-1048577", "0x1p+4294967296", "0x1p+18446744073709551616", "0x1p-18446744073709551616", "0x1p+9223372036854775807", "0x1p-9223372036854775808",
		// signs and spaces
		"+0x1p+00", "--0x1p+00", "-nan", "+nan", "+inf", "--inf", " inf", "inf ", "nan ", " 0x1p+00", "0x1p+00 ", "0x1p+00\n", "0x1p+00\x00", "0x1_0p+00", "0x_1p+00", "- 0x1p+00", "infinity",
		"0.1", "1e5", "\u0661", "0x\u0661p+00", "0x1p+\uff10\uff10", "0x1.\xffp+00", "0x1p\u221204",
	} {
		unhexRefuses(t, s)
	}
	unhexRefuses(t, strings.Repeat("0", 100000))
	unhexRefuses(t, "0x1."+strings.Repeat("0", 100000)+"1p+00")
	unhexRefuses(t, "0x1p+"+strings.Repeat("0", 100000))
}

// P4.2: of all texts that differ from a Hex by one sign just those are read that are another number's Hex; P4.6: Hex of it is the text.
func TestUnhexNear(t *testing.T) {
	for _, s := range []string{"nan", "inf", "-inf", "0x0p+00", "-0x0p+00", "0x1p+00", "-0x1.8p+00", "0x1.999999999999ap-04", "0x1.fffffffffffffp+1023", "0x1p-1074", "-0x1.8p-1073", "0x1.ffffffffffffep-1023", "0x1p+100", "0x1.4p-99"} {
		for _, c := range near(s) {
			want, err := strconv.ParseFloat(c, 64)
			named := c == "nan" || c == "inf" || c == "-inf"
			if named || err == nil && !math.IsInf(want, 0) && strconv.FormatFloat(want, 'x', -1, 64) == c {
				if x, e := Unhex(c); hex(x) != hex(want) && c != "nan" || e != api.OK || Hex(x) != c {
					t.Errorf("Unhex(%s): %x, error %d; want %x", c, x, e, want)
				}
				continue
			}
			unhexRefuses(t, c)
		}
	}
}
