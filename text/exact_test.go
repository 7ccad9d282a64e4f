package text

import (
	"math"
	"strconv"
	"strings"
	"testing"

	"steelyard/api"
)

// P4.4: the chapter's examples, whole numbers, both sides of the point.
func TestExactExamples(t *testing.T) {
	for _, c := range []struct {
		x    float64
		want string
	}{
		{0, "0"},
		{nought(true), "-0"},
		{1, "1"},
		{-3, "-3"},
		{10, "10"},
		{96, "96"},
		{100, "100"},
		{0.5, "0.5"},
		{0.25, "0.25"},
		{0.0625, "0.0625"},
		{-1.25, "-1.25"},
		{10.5, "10.5"},
		{1000.0009765625, "1000.0009765625"},
		{0.1, "0.1000000000000000055511151231257827021181583404541015625"},
		{0x1p53, "9007199254740992"},
		{0x1p53 - 1, "9007199254740991"},
		{0x1p52 + 0.5, "4503599627370496"},
		{0x1p51 + 0.5, "2251799813685248.5"},
		{0x1p60, "1152921504606846976"},
		{1e23, "99999999999999991611392"},
		{1e22, "10000000000000000000000"},
		{0x1p-30, "0.000000000931322574615478515625"},
	} {
		if got := Exact(c.x); got != c.want {
			t.Errorf("Exact(%x): %s, want %s", c.x, got, c.want)
		}
	}
}

// P4.4: the least and the greatest number, told by their ends.
func TestExactEnds(t *testing.T) {
	s := Exact(least)
	if len(s) != 2+1074 || !strings.HasPrefix(s, "0."+strings.Repeat("0", 323)+"4940656458412465441765687") || !strings.HasSuffix(s, "4565229087538682506419718265533447265625") {
		t.Errorf("Exact of the least: %d bytes, %s", len(s), brief(s))
	}
	s = Exact(greatest)
	if len(s) != 309 || !strings.HasPrefix(s, "17976931348623157081452742373170435679807056752584") || !strings.HasSuffix(s, "919299881250404026184124858368") {
		t.Errorf("Exact of the greatest: %d bytes, %s", len(s), brief(s))
	}
}

// exactly is what P4.4 says, by whole numbers alone.
func exactly(x float64) string {
	s := decimalOf(steps(hex(x)))
	return strings.TrimSuffix(strings.TrimRight(s, "0"), ".")
}

// P4.4; P4.6: read by any mode it is the number, its sign too.
func TestExactOfAll(t *testing.T) {
	l := numbers(1500)
	for i, x := range powersOfTwo() {
		if i%11 == 0 {
			l = append(l, x)
		}
	}
	for i, x := range l {
		s := Exact(x)
		if want := exactly(x); s != want {
			t.Errorf("Exact(%x): %s, want %s", x, brief(s), brief(want))
		}
		mode := i % 5
		reads(t, s, mode, hex(x))
		reads(t, Exact(-x), mode, hex(-x))
	}
}

// P4.6: of each edge by each mode; of a NaN it is the one that is answered.
func TestExactIsReadByAnyMode(t *testing.T) {
	for mode := api.Even; mode <= api.Away; mode++ {
		for _, x := range append(edges(), 0, math.Inf(1)) {
			reads(t, Exact(x), mode, hex(x))
			reads(t, Exact(math.Copysign(x, -1)), mode, hex(x)|1<<63)
		}
		for _, x := range odds() {
			reads(t, Exact(x), mode, answered)
		}
	}
}

// P4.4: whole numbers read as the library writes them.
func TestExactOfWhole(t *testing.T) {
	for i := range 3000 {
		if got := Exact(float64(i)); got != strconv.Itoa(i) {
			t.Errorf("Exact(%d): %s", i, got)
		}
	}
}
