package pair

import (
	"math"
	"math/big"
	"strconv"
	"strings"
	"testing"

	"steelyard/api"
)

const (
	least    = 0x1p-1074
	greatest = math.MaxFloat64
	answered = 0x7FF8000000000000 // the bits of the NaN that is answered
)

var (
	odd   = math.Float64frombits(answered)
	inf   = math.Inf(1)
	minus = math.Copysign(0, -1)
)

func hex(x float64) uint64 { return math.Float64bits(x) }

func two(n int) float64 { return math.Ldexp(1, n) }

func next(x float64) float64 { return math.Nextafter(x, inf) }

func prev(x float64) float64 { return math.Nextafter(x, -inf) }

// turned is x with the other sign, of noughts too; no step does it.
func turned(x float64) float64 { return math.Float64frombits(hex(x) ^ 1<<63) }

// is fails unless both numbers have just these bits.
func is(t *testing.T, what string, got api.Pair, hi, lo float64) {
	t.Helper()
	if hex(got.Hi) != hex(hi) || hex(got.Lo) != hex(lo) {
		t.Errorf("%s: (%x, %x), bits %x %x; want (%x, %x)", what, got.Hi, got.Lo, hex(got.Hi), hex(got.Lo), hi, lo)
	}
}

// stepped is what the chapter's words say of a step; the exact value is the library's own, and the rounding.
func stepped(a float64, sign string, b float64) float64 {
	if math.IsNaN(a) || math.IsNaN(b) {
		return odd
	}
	switch sign {
	case "+":
		return plus(a, b)
	case "-":
		return plus(a, turned(b))
	}
	return times(a, b)
}

func plus(a, b float64) float64 {
	if math.IsInf(a, 0) || math.IsInf(b, 0) {
		if a == -b {
			return odd
		}
		if math.IsInf(a, 0) {
			return a
		}
		return b
	}
	x, _ := exact().Add(big.NewFloat(a), big.NewFloat(b)).Float64()
	if x != 0 || a != 0 || b != 0 {
		return x
	}
	if math.Signbit(a) && math.Signbit(b) {
		return minus
	}
	return 0
}

func times(a, b float64) float64 {
	x := inf
	switch endless := math.IsInf(a, 0) || math.IsInf(b, 0); {
	case endless && (a == 0 || b == 0):
		return odd
	case !endless:
		x, _ = exact().Mul(big.NewFloat(math.Abs(a)), big.NewFloat(math.Abs(b))).Float64()
	}
	if math.Signbit(a) != math.Signbit(b) {
		return turned(x)
	}
	return x
}

// exact holds any two numbers' sum or product whole.
func exact() *big.Float { return new(big.Float).SetPrec(2200) }

// line is one of the chapter's lines: what is named on its left, and what is done on its right.
type line struct {
	names []string
	do    string
	with  []string
}

// book is P5.1 to P5.5, word for word, to be worked out by stepped.
type book struct {
	calls map[string][]line
	steps int
}

func newBook() *book {
	b := &book{calls: map[string][]line{}}
	for name, text := range map[string]string{
		"Sum":     "Hi = a + b; t = Hi - a; u = Hi - t; v = a - u; w = b - t; Lo = v + w",
		"Quick":   "Hi = a + b; t = Hi - a; Lo = b - t",
		"Halves":  "c = 134217729 * a; d = a - c; Hi = c + d; Lo = a - Hi",
		"Product": "Hi = a * b; g h = Halves a; i j = Halves b; p = g * i; p1 = p - Hi; q = g * j; p2 = p1 + q; r = h * i; p3 = p2 + r; s = h * j; Lo = p3 + s",
		"Add":     "s s' = Sum a b; t t' = Sum a' b'; c = s' + t; v v' = Quick s c; w = t' + v'; Hi Lo = Quick v w",
		"Mul":     "c c' = Product a b; p = a * b'; q = a' * b; r = p + q; x = c' + r; Hi Lo = Quick c x",
		"Value":   "Hi = a + a'",
	} {
		for _, one := range strings.Split(text, ";") {
			left, right, _ := strings.Cut(one, "=")
			l := line{names: strings.Fields(left), with: strings.Fields(right)}
			if len(l.with) == 3 && len(l.with[1]) == 1 && strings.Contains("+-*", l.with[1]) {
				l.do, l.with = l.with[1], []string{l.with[0], l.with[2]}
			} else {
				l.do, l.with = l.with[0], l.with[1:]
			}
			b.calls[name] = append(b.calls[name], l)
		}
	}
	return b
}

// ask works a call out; what it is given is named in order: a, b or a, a', b, b'.
func (k *book) ask(call string, given ...float64) api.Pair {
	names := []string{"a", "b"}
	if call == "Add" || call == "Mul" || call == "Value" {
		names = []string{"a", "a'", "b", "b'"}
	}
	has := map[string]float64{}
	for i, x := range given {
		has[names[i]] = x
	}
	for _, l := range k.calls[call] {
		var with []float64
		for _, name := range l.with {
			x, ok := has[name]
			if !ok {
				x, _ = strconv.ParseFloat(name, 64)
			}
			with = append(with, x)
		}
		if k.calls[l.do] != nil {
			p := k.ask(l.do, with...)
			has[l.names[0]], has[l.names[1]] = p.Hi, p.Lo
		} else {
			k.steps++
			has[l.names[0]] = stepped(with[0], l.do, with[1])
		}
	}
	return api.Pair{Hi: has["Hi"], Lo: has["Lo"]}
}

// both holds each call of two numbers against the book.
func (k *book) both(t *testing.T, a, b float64) {
	t.Helper()
	for name, got := range map[string]api.Pair{"Sum": Sum(a, b), "Quick": Quick(a, b), "Product": Product(a, b)} {
		if want := k.ask(name, a, b); !alike(want, got) {
			k.tell(t, name, got, want, a, b)
		}
	}
}

// pairs holds each call of two pairs against the book.
func (k *book) pairs(t *testing.T, a, b api.Pair) {
	t.Helper()
	for name, got := range map[string]api.Pair{"Add": Add(a, b), "Mul": Mul(a, b)} {
		if want := k.ask(name, a.Hi, a.Lo, b.Hi, b.Lo); !alike(want, got) {
			k.tell(t, name, got, want, a.Hi, a.Lo, b.Hi, b.Lo)
		}
	}
}

func (k *book) alone(t *testing.T, a float64) {
	t.Helper()
	if got, want := Halves(a), k.ask("Halves", a); !alike(want, got) {
		k.tell(t, "Halves", got, want, a)
	}
}

func (k *book) value(t *testing.T, hi, lo float64) {
	t.Helper()
	got := api.Pair{Hi: Value(api.Pair{Hi: hi, Lo: lo})}
	if want := k.ask("Value", hi, lo); !alike(want, got) {
		k.tell(t, "Value", got, want, hi, lo)
	}
}

func alike(p, q api.Pair) bool { return hex(p.Hi) == hex(q.Hi) && hex(p.Lo) == hex(q.Lo) }

func (k *book) tell(t *testing.T, call string, got, want api.Pair, given ...float64) {
	t.Helper()
	t.Errorf("%s of %x: (%x, %x), bits %x %x; want (%x, %x)", call, given, got.Hi, got.Lo, hex(got.Hi), hex(got.Lo), want.Hi, want.Lo)
}

// odds are NaN of several bits: quiet and not, both signs, low and high ends.
func odds() []float64 {
	var l []float64
	for _, b := range []uint64{
		answered, 0xFFF8000000000000, 0x7FF0000000000001, 0xFFF0000000000123,
		0x7FFFFFFFFFFFFFFF, 0xFFFFFFFFFFFFFFFF, 0x7FF7FFFFFFFFFFFF, 0x7FF8000000000001,
	} {
		l = append(l, math.Float64frombits(b))
	}
	return l
}

// bounds are the sizes at which the chapter's words change, or steps do, with what lies next to them.
func bounds() []float64 {
	l := []float64{0, least, 2 * least, 3 * least, 5 * least, 0x1p-1048, 0.1, 0.2, 10, 1.0 / 3, 1e16, 1e308, 3 * 0x1p970, greatest, prev(greatest), inf}
	for _, e := range []int{-1022, -969, -540, -485, -400, -60, -1, 0, 27, 53, 54, 60, 400, 510, 969, 970, 995, 996, 997, 1000, 1021, 1022, 1023} {
		l = append(l, prev(two(e)), two(e), next(two(e)))
	}
	return l
}

// edges are bounds of either sign.
func edges() []float64 {
	var l []float64
	for _, x := range bounds() {
		l = append(l, x, turned(x))
	}
	return l
}

// dice is a row of words that looks like none in particular, and is the same at each run.
type dice uint64

func (d *dice) roll() uint64 {
	*d = *d*6364136223846793005 + 1442695040888963407
	return uint64(*d >> 11)
}

func (d *dice) below(n int) int { return int(d.roll()>>8) % n }

func (d *dice) of(l []float64) float64 { return l[d.below(len(l))] }

// bits are 52 of them: any, or few, or long rows of ones and noughts, at which roundings go on and on.
func (d *dice) bits() uint64 {
	const all = 1<<52 - 1
	switch b := d.roll() & all; d.below(4) {
	case 0:
		return b
	case 1:
		return b << d.below(52) & all
	case 2:
		return all << d.below(53) & all
	default:
		return all>>d.below(53) ^ 1<<d.below(52)
	}
}

// sized is of either sign, from 2^low on and below 2^(high + 1).
func (d *dice) sized(low, high int) float64 {
	x := math.Ldexp(math.Float64frombits(hex(1)|d.bits()), low+d.below(high-low+1))
	if d.below(2) == 1 {
		return turned(x)
	}
	return x
}
