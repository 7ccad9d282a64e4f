package wide

import (
	"math/big"
	"slices"
	"strings"
	"testing"

	"steelyard/api"
)

// P2.5: digits of all Nats, long ones too, whose low pieces are noughts, too.
func TestText(t *testing.T) {
	l := slices.Concat(some(), great()[:2], past()[:1])
	ten := big.NewInt(1)
	for range 120 {
		n, _ := Parse(ten.String())
		less, _ := Sub(n, api.Nat{1})
		more, _ := Add(n, api.Nat{1})
		l = append(l, n, less, more)
		ten.Mul(ten, big.NewInt(10))
	}
	for _, n := range l {
		if got, want := Text(n), exact(n).String(); got != want {
			t.Errorf("Text of %v: %s, want %s", n, got, want)
		}
	}
	for _, c := range []struct {
		n    api.Nat
		want string
	}{{power(64), "18446744073709551616"}, {nil, "0"}, {api.Nat{0, 0}, "0"}, {api.Nat{7, 0}, "7"}, {api.Nat{1000000000}, "1000000000"}} {
		if got := Text(c.n); got != c.want {
			t.Errorf("Text(%v): %s, want %s", c.n, got, c.want)
		}
	}
}

// P2.5: numbers of each count of digits, so that pieces end everywhere.
func TestParse(t *testing.T) {
	for i := range 200 {
		for _, s := range []string{"1" + strings.Repeat("0", i), strings.Repeat("9", i+1), "1" + strings.Repeat("0", i) + "1", ("9876543210" + strings.Repeat("1234567890", 20))[:i+1]} {
			n, e := Parse(s)
			answers(t, "Parse of "+s, n, e, whole(s), api.OK)
		}
	}
	n, e := Parse("18446744073709551616")
	if !slices.Equal(n, api.Nat{0, 0, 1}) || e != api.OK {
		t.Errorf("Parse of 2^64: %v, %d", n, e)
	}
	n, e = Parse("0")
	answers(t, "Parse of 0", n, e, new(big.Int), api.OK)
}

// P2.5: what is no number; a fault stands at every place of a piece, behind what is long, too.
func TestParseForm(t *testing.T) {
	long := strings.Repeat("9", 90000)
	l := []string{"", "007", "-1", "+1", "00", "01", "-0", "+0", " 1", "1 ", " ", "0x1", "1e3", "1.0", "1_000", "1,000", "a", "/", ":", "1/", "1:",
		"1\x00", "\x001", "١", "1١", "１", "\xff", "1\n", "0 ", "0a", "0x", "0" + long, long + "x", "x" + long, long + " ", long + "x" + long}
	for i := range 40 {
		for _, bad := range []string{"/", ":", " ", "-", "é"} {
			l = append(l, strings.Repeat("8", i)+bad, strings.Repeat("8", i)+bad+"8")
		}
	}
	for _, s := range l {
		n, e := Parse(s)
		answers(t, "Parse of what is no number", n, e, nil, api.ErrForm)
	}
}

// P2.5: the greatest number that is not long, and the next one.
func TestParseLong(t *testing.T) {
	top := exact(ones(32 * most))
	n, e := Parse(top.String())
	answers(t, "Parse of 2^262144 - 1", n, e, top, api.OK)
	n, e = Parse(exact(power(32 * most)).String())
	answers(t, "Parse of 2^262144", n, e, nil, api.ErrLong)
	for _, s := range []string{strings.Repeat("9", 78914), "1" + strings.Repeat("0", 78914), strings.Repeat("1", 200000)} {
		n, e = Parse(s)
		answers(t, "Parse of what is long", n, e, nil, api.ErrLong)
	}
	s := strings.Repeat("9", 78913)
	n, e = Parse(s)
	answers(t, "Parse of 78913 nines", n, e, whole(s), api.OK)
}
