package text

import (
	"math"
	"math/big"
	"strings"
	"testing"

	"steelyard/api"
)

const (
	least    = 0x1p-1074
	greatest = math.MaxFloat64
	answered = 0x7FF8000000000000 // the bits of the NaN that is answered
	endless  = 0x7FF << 52        // those of +Inf
)

func nought(neg bool) float64 {
	if neg {
		return math.Copysign(0, -1)
	}
	return 0
}

func hex(x float64) uint64 { return math.Float64bits(x) }

// odds are NaN of several bits: quiet and not, both signs, low and high ends.
func odds() []float64 {
	var l []float64
	for _, b := range []uint64{
		answered, 0xFFF8000000000000, 0x7FF0000000000001, 0xFFF0000000000123,
		0x7FFFFFFFFFFFFFFF, 0xFFFFFFFFFFFFFFFF, 0x7FF7FFFFFFFFFFFF, 0x7FF8000000000001,
	} {
		l = append(l, math.Float64frombits(b))
	}
	return l
}

// edges are finite and above nought: ends of every kind, and what lies next to them.
func edges() []float64 {
	var l []float64
	for _, b := range []uint64{
		1, 2, 3, 4, 5, 1<<51 - 1, 1 << 51, 1<<52 - 2, 1<<52 - 1, 1 << 52, 1<<52 + 1, 2<<52 - 1, 2 << 52, 2<<52 + 1,
		hex(1) - 1, hex(1), hex(1) + 1, hex(0.1), hex(0.1) - 1, hex(10), hex(1e16), hex(1e22), hex(1e23), hex(1e23) - 1,
		hex(0x1p53) - 1, hex(0x1p53), hex(0x1p53) + 1, hex(0x1p1023) - 1, hex(0x1p1023), hex(0x1p1023) + 1, endless - 2, endless - 1,
	} {
		l = append(l, math.Float64frombits(b))
	}
	return l
}

// powersOfTwo are all of them, with what lies next to them on either side.
func powersOfTwo() []float64 {
	l := []float64{least}
	for e := -1073; e <= 1023; e++ {
		b := hex(math.Ldexp(1, e))
		l = append(l, math.Float64frombits(b-1), math.Float64frombits(b), math.Float64frombits(b+1))
	}
	return l
}

// dice is a row of words that looks like none in particular, and is the same at each run.
type dice uint64

func (d *dice) roll() uint64 {
	*d = *d*6364136223846793005 + 1442695040888963407
	return uint64(*d >> 11)
}

func (d *dice) below(n int) int { return int(d.roll()>>8) % n }

// number is finite and above nought: any bits, or a short one, or one of few decimal digits.
func (d *dice) number() float64 {
	switch d.below(3) {
	case 0:
		return math.Float64frombits(1 + (d.roll()<<11|d.roll()>>42)%(endless-1))
	case 1:
		return math.Ldexp(float64(1+d.below(1<<(1+d.below(40)))), d.below(120)-60)
	}
	return float64(1+d.below(1<<30)) * math.Pow(10, float64(d.below(44)-20))
}

// numbers are n of them, with the edges ahead.
func numbers(n int) []float64 {
	l, d := edges(), dice(41)
	for range n {
		l = append(l, d.number())
	}
	return l
}

// digits are n of them, often 0 and 9.
func (d *dice) digits(n int) string {
	var s strings.Builder
	for range n {
		s.WriteByte("00991234567890"[d.below(14)])
	}
	return s.String()
}

// finest is how fine steps counts: in 2^-finest.
const finest = 1080

// steps is the exact size of what has these bits, in 2^-finest; those of the infinity stand for the number that would follow the greatest.
func steps(b uint64) *big.Int {
	e, f := uint(b>>52), b&(1<<52-1)
	if e > 0 {
		f, e = f|1<<52, e-1
	}
	n := new(big.Int).SetUint64(f)
	return n.Lsh(n, e+finest-1074)
}

// decimalOf is all of a value's decimal digits, the value being n times 2^-finest; there are always finest digits behind the point.
func decimalOf(n *big.Int) string {
	five := new(big.Int).Exp(big.NewInt(5), big.NewInt(finest), nil)
	s := new(big.Int).Mul(n, five).String()
	if len(s) <= finest {
		s = strings.Repeat("0", finest+1-len(s)) + s
	}
	return s[:len(s)-finest] + "." + s[len(s)-finest:]
}

// rounded is what 'rounded once' says of v, which is above nought, as bits; its neighbours are looked up among all numbers.
func rounded(v *big.Rat, neg bool, mode int) uint64 {
	num := new(big.Int).Lsh(v.Num(), finest)
	stands := func(n *big.Int) int { return num.Cmp(new(big.Int).Mul(n, v.Denom())) }
	in, out := uint64(0), uint64(endless)
	if stands(steps(endless)) >= 0 {
		return taken(endless-1, upper, neg, mode)
	}
	for out-in > 1 {
		if mid := in + (out-in)/2; stands(steps(mid)) >= 0 {
			in = mid
		} else {
			out = mid
		}
	}
	if stands(steps(in)) == 0 {
		return taken(in, at, neg, mode)
	}
	middle := new(big.Int).Add(steps(in), steps(out))
	middle.Rsh(middle, 1)
	return taken(in, middleOf+stands(middle), neg, mode)
}

// Where a value lies between a number and the one behind it, away from nought.
const (
	at = iota
	lower
	middleOf
	upper
)

// taken is which number's bits a value goes to that lies so behind the one of the bits b.
func taken(b uint64, where int, neg bool, mode int) uint64 {
	out := false
	switch mode {
	case api.Even:
		out = where == upper || where == middleOf && b%2 == 1
	case api.Up:
		out = where != at && !neg
	case api.Down:
		out = where != at && neg
	case api.Away:
		out = where >= middleOf
	}
	if out {
		b++
	}
	if neg {
		b |= 1 << 63
	}
	return b
}

// reads fails unless s is read as the number of these bits.
func reads(t *testing.T, s string, mode int, want uint64) {
	t.Helper()
	if x, e := Read(s, mode); e != api.OK || hex(x) != want {
		t.Errorf("Read(%s, %d): %x (%g), error %d; want %x", brief(s), mode, hex(x), x, e, want)
	}
}

// refuses fails unless s is refused so, with +0 beside the error.
func refuses(t *testing.T, s string, mode int, want api.Errno) {
	t.Helper()
	if x, e := Read(s, mode); e != want || hex(x) != 0 {
		t.Errorf("Read(%s, %d): %x, error %d; want +0, error %d", brief(s), mode, hex(x), e, want)
	}
}

// brief keeps failures of long texts readable.
func brief(s string) string {
	if len(s) > 60 {
		return s[:25] + " .. " + s[len(s)-25:]
	}
	return s
}

// near are all texts that differ from s by one byte or one sign of several bytes: another one in its place, one more, one less.
func near(s string) []string {
	signs := []string{"\u0661", "\uff10", "\u2212", "\u00e9", "\ufeff", "\ufffd", "\U0001d7ce", "\xed\xa0\x80"}
	for b := range 256 {
		signs = append(signs, string([]byte{byte(b)}))
	}
	var l []string
	for i := range len(s) + 1 {
		for _, c := range signs {
			l = append(l, s[:i]+c+s[i:])
			if i < len(s) {
				l = append(l, s[:i]+c+s[i+1:])
			}
		}
		if i < len(s) {
			l = append(l, s[:i]+s[i+1:])
		}
	}
	return l
}
