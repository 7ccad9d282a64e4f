package text

import (
	"math"
	"regexp"
	"strconv"
	"strings"
	"testing"

	"steelyard/api"
)

// formed is P4.5's form, byte by byte.
var formed = regexp.MustCompile(`\A(nan|-?(inf|[0-9]+(\.[0-9]+)?(e[+-]?[0-9]+)?))\z`)

// asFormed fails unless s is read as the library reads it, if it is of the form, and is refused else.
func asFormed(t *testing.T, s string) {
	t.Helper()
	if !formed.MatchString(s) {
		refuses(t, s, api.Even, api.ErrForm)
		return
	}
	want, _ := strconv.ParseFloat(s, 64)
	if s == "nan" {
		want = math.Float64frombits(answered)
	}
	reads(t, s, api.Even, hex(want))
}

// P4.5: the chapter's texts that are none, and others.
func TestReadRefuses(t *testing.T) {
	for _, s := range []string{
		"", ".5", "1.", "+1", "1e", "1E5", "-nan", "0x1", " 1",
		"-", "--1", "-+1", "+-1", "1-", ".", "-.", "-.5", "e", "e5", "-e5", ".e5", "1.e5", "1e+", "1e-", "1e+-5", "1e--5", "1e5.5", "1e5e5", "1.2.3", "1..2",
		"infinity", "Inf", "INF", "+inf", "--inf", "-infinity", "inf1", "1inf", "in", "NaN", "NAN", "+nan", "nan1", "nann", "na", "nan ", " nan", "inf ", "-inf ", "- inf",
		"1_0", "1,5", "1 ", "1\n", "\n1", "1\x00", "\x001", "1 2", "1e 5", "1 e5", "- 1", "1f", "1p5", "0x1p+00", "1e0x1", "1/2", "1:", "/1",
		"\u0661", "1\u0661", "\uff11", "1\uff0e5", "\u22121", "1e\u22125", "1\u00e95", "\ufeff1", "1\ufeff", "\U0001d7ce", "\u00bd", "1\u0301", "\u221e",
		"\xff", "1\xff", "\xff1", "1\x80", "\xc2\xb9", "1e\xff5", "1.\xff", "\xed\xa0\x80", "\xc0\xb0", "1\xc2", "\xf0\x9d\x9f",
	} {
		for mode := api.Even; mode <= api.Away; mode++ {
			refuses(t, s, mode, api.ErrForm)
		}
	}
}

// P4.5: all texts of up to six signs of the form's.
func TestReadShortTexts(t *testing.T) {
	texts := []string{""}
	for range 6 {
		var longer []string
		for _, s := range texts {
			for _, c := range []string{"0", "7", ".", "e", "+", "-"} {
				longer = append(longer, s+c)
			}
		}
		for _, s := range longer {
			asFormed(t, s)
		}
		texts = longer
	}
}

// P4.5: all texts that differ by one sign from one that is of the form.
func TestReadNear(t *testing.T) {
	for _, s := range []string{"nan", "inf", "-inf", "0", "-7", "12.5", "-0.25e3", "1e+21", "3.5e-07"} {
		for _, c := range near(s) {
			asFormed(t, c)
		}
	}
}

// P4.5: MaxDigits digits are read and one more is refused, wherever it stands; signs, point and e count nothing.
func TestReadLong(t *testing.T) {
	zeros := func(n int) string { return strings.Repeat("0", n) }
	most := api.MaxDigits
	for _, c := range []struct {
		head, tail string // with noughts between, which are the rest of MaxDigits digits
		given      int    // how many digits head and tail have
		want       float64
	}{
		{"", "", 0, 0},
		{"-", "", 0, nought(true)},
		{"", "7", 1, 7},
		{"7.", "", 1, 7},
		{"-7.", "", 1, -7},
		{"", ".5", 1, 0.5},
		{"", ".5e1", 2, 5},
		{"-12.5", "e-0", 4, -12.5},
		{"1e", "", 1, 1},
		{"1e-", "", 1, 1},
		{"1e+", "1", 2, 10},
		{"1.5e", "2", 3, 150},
		{"0e9", "", 2, 0},
		{"-0e-9", "", 2, nought(true)},
	} {
		s := c.head + zeros(most-c.given) + c.tail
		longer := c.head + zeros(most+1-c.given) + c.tail
		for mode := api.Even; mode <= api.Away; mode++ {
			reads(t, s, mode, hex(c.want))
			refuses(t, longer, mode, api.ErrLong)
		}
	}
	reads(t, strings.Repeat("9", most), api.Even, endless)
	refuses(t, strings.Repeat("9", most+1), api.Even, api.ErrLong)
	refuses(t, strings.Repeat("9", 1<<20), api.Even, api.ErrLong)
	refuses(t, "0."+strings.Repeat("9", 1<<20), api.Even, api.ErrLong)
	refuses(t, "-1e-"+strings.Repeat("9", 1<<20), api.Even, api.ErrLong)
}

// P4.5, R5: ErrArg ahead of ErrForm ahead of ErrLong, each with +0 beside it.
func TestReadOrderOfErrors(t *testing.T) {
	long := strings.Repeat("1", api.MaxDigits+1)
	for _, mode := range []int{-1, 5, 6, 256, 1 << 32, math.MinInt, math.MaxInt} {
		for _, s := range []string{"1", "0.1", "-0", "nan", "inf", "-inf", "", "x", "1e", long, long + "x"} {
			refuses(t, s, mode, api.ErrArg)
		}
	}
	for mode := api.Even; mode <= api.Away; mode++ {
		for _, s := range []string{long + "x", "x" + long, long + ".", long + "e", long + "e+", "." + long, "+" + long, long + "\xff", long + ".5.5", "1e5." + long, long + "\u0661"} {
			refuses(t, s, mode, api.ErrForm)
		}
		for _, s := range []string{long, "-" + long, long + ".5", "0." + long, "1e" + long, "-1e-" + long} {
			refuses(t, s, mode, api.ErrLong)
		}
	}
}
