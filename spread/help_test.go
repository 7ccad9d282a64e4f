package spread

import (
	"fmt"
	"math"
	"math/big"
	"slices"
	"testing"

	"steelyard/api"
)

const (
	least    = 0x1p-1074
	normal   = 0x1p-1022 // the least one
	greatest = math.MaxFloat64
	most     = 65536 // numbers that a Spread has
)

var (
	inf         = math.Inf(1)
	noughtBelow = math.Copysign(0, -1)
)

// model is a Spread by the chapter's words: the sum is counted in units of 2^-1074 by the library's whole numbers.
type model struct {
	units *big.Int
	count int
}

func blank() model { return model{units: new(big.Int)} }

func (m model) same() model { return model{new(big.Int).Set(m.units), m.count} }

// inUnits is a finite number's value.
func inUnits(x float64) *big.Int {
	v := big.NewFloat(x)
	n, how := v.SetMantExp(v, 1074).Int(nil)
	if how != big.Exact {
		panic("a unit is too great")
	}
	return n
}

// real is a value of so many units.
func real(units *big.Int) *big.Float {
	v := new(big.Float).SetPrec(4096).SetInt(units)
	return v.SetMantExp(v, -1074)
}

func finite(x float64) bool { return x-x == 0 }

func (m *model) add(x float64) api.Errno {
	switch {
	case m.count == most:
		return api.ErrLong
	case !finite(x):
		return api.ErrOdd
	}
	m.units.Add(m.units, inUnits(x))
	m.count++
	return api.OK
}

func (m *model) merge(o model) api.Errno {
	if m.count+o.count > most {
		return api.ErrLong
	}
	m.units.Add(m.units, o.units)
	m.count += o.count
	return api.OK
}

// parts are what P8.3 says, step by step.
func (m model) parts() []float64 {
	var l []float64
	left := new(big.Int).Set(m.units)
	for left.Sign() != 0 {
		x, _ := real(left).Float64()
		x = max(min(x, greatest), -greatest)
		l = append(l, x)
		left.Sub(left, inUnits(x))
	}
	return l
}

// formed is the form of so many units, as chapter 3 has it.
func formed(units *big.Int) api.Dyad {
	if units.Sign() == 0 {
		return api.Dyad{}
	}
	low := units.TrailingZeroBits()
	b := new(big.Int).Rsh(new(big.Int).Abs(units), low).Bytes()
	mag := make(api.Nat, (len(b)+3)/4)
	for i := range b {
		mag[i/4] |= uint32(b[len(b)-1-i]) << (8 * (i % 4))
	}
	return api.Dyad{Neg: units.Sign() < 0, Mag: mag, Exp: int(low) - 1074}
}

func alike(a, b api.Dyad) bool {
	return a.Neg == b.Neg && a.Exp == b.Exp && slices.Equal(a.Mag, b.Mag)
}

// sameList tells whether two have the same bits one by one.
func sameList(a, b []float64) bool {
	return slices.EqualFunc(a, b, func(x, y float64) bool { return math.Float64bits(x) == math.Float64bits(y) })
}

// has fails unless the Spread has just what the model has, and keeps it as the chapter says.
func has(t *testing.T, what string, s *Spread, m model) {
	t.Helper()
	if d, want := s.Exact(), formed(m.units); !alike(d, want) {
		t.Errorf("%s: Exact is {%t %x %d}; want {%t %x %d}", what, d.Neg, d.Mag, d.Exp, want.Neg, want.Mag, want.Exp)
	}
	if s.count != m.count {
		t.Errorf("%s: %d numbers; want %d", what, s.count, m.count)
	}
	apart(t, what, s.usual)
	apart(t, what, s.shrunk)
}

// apart fails unless the numbers of a row are finite ones, no noughts, the least first, and each has its lowest bit above the highest one of the number ahead of it.
func apart(t *testing.T, what string, r row) {
	t.Helper()
	for i, x := range r {
		if x == 0 || !finite(x) || math.Abs(x) > 0x1p977 {
			t.Errorf("%s: %v is kept", what, x)
		}
		if i > 0 && inUnits(x).TrailingZeroBits() < uint(inUnits(r[i-1]).BitLen()) {
			t.Errorf("%s: %x and %x overlap", what, r[i-1], x)
		}
	}
}

// twin is a Spread with its model beside it: each call is made on both, and each must leave both alike.
type twin struct {
	t *testing.T
	s *Spread
	m model
}

func pairUp(t *testing.T, l ...float64) *twin {
	t.Helper()
	w := &twin{t, New(), blank()}
	w.alike("New")
	for _, x := range l {
		want(t, "Add", w.add(x), api.OK)
	}
	return w
}

func (w *twin) alike(what string) {
	w.t.Helper()
	has(w.t, what, w.s, w.m)
}

func (w *twin) answers(what string, e, is api.Errno) api.Errno {
	w.t.Helper()
	want(w.t, what, e, is)
	w.alike(what)
	return e
}

func (w *twin) add(x float64) api.Errno {
	w.t.Helper()
	return w.answers(fmt.Sprintf("Add(%v)", x), w.s.Add(x), w.m.add(x))
}

func (w *twin) merge(o *twin) api.Errno {
	w.t.Helper()
	before := o.m.same()
	e := w.answers("Merge", w.s.Merge(o.s), w.m.merge(before))
	if o != w {
		has(w.t, "what is merged", o.s, before)
	}
	return e
}

// tells asks for all that a Spread tells; that changes nothing.
func (w *twin) tells() {
	w.t.Helper()
	if l, is := w.s.Parts(), w.m.parts(); !sameList(l, is) {
		w.t.Errorf("Parts of %x: %x; want %x", w.m.units, l, is)
	}
	for mode := range 5 {
		x, e := w.s.Round(mode)
		if is := rounded(w.m.units, mode); math.Float64bits(x) != math.Float64bits(is) || e != api.OK {
			w.t.Errorf("Round(%d) of %x: %x, error %d; want %x", mode, w.m.units, x, e, is)
		}
	}
	w.alike("after all was told")
}

// want fails unless the answer is just this one.
func want(t *testing.T, what string, e, is api.Errno) {
	t.Helper()
	if e != is {
		t.Errorf("%s: error %d; want %d", what, e, is)
	}
}

// doubled merges itself n times.
func (w *twin) doubled(n int) *twin {
	w.t.Helper()
	for range n {
		want(w.t, "Merge with itself", w.merge(w), api.OK)
	}
	return w
}

// many has x so many times.
func many(t *testing.T, n int, x float64) *twin {
	t.Helper()
	w, power := pairUp(t), pairUp(t, x)
	for ; n > 0; n /= 2 {
		if n%2 == 1 {
			want(t, "Merge", w.merge(power), api.OK)
		}
		if n > 1 {
			power.doubled(1)
		}
	}
	return w
}

// of has just these numbers.
func of(l ...float64) *Spread {
	s := New()
	for _, x := range l {
		s.Add(x)
	}
	return s
}

// odds are NaNs of many bits, quiet ones and others, of either sign.
func odds() []float64 {
	var l []float64
	d := dice(80)
	for _, sign := range []uint64{0, 1 << 63} {
		for _, frac := range []uint64{1, 2, 1 << 50, 1 << 51, 1<<51 | 1, 1<<52 - 1, 1<<51 - 1, 1 + d.roll()%(1<<52-1)} {
			l = append(l, math.Float64frombits(sign|0x7FF<<52|frac))
		}
	}
	return l
}

// endless are what no Spread takes.
func endless() []float64 { return append(odds(), inf, -inf) }

// edges are finite ones that are no nought, of either sign; among them those about which a Spread keeps numbers otherwise.
func edges() []float64 {
	var l []float64
	for _, x := range []float64{least, 2 * least, 3 * least, normal - least, normal, normal + least, 2 * normal, 0x1p-60, 0.1, 1 - 0x1p-53, 1, 1 + 0x1p-52, 2.5, 0x1p53 - 1, 0x1p53, 0x1.fffffffffffffp895, 0x1p896, 0x1.fffffffffffffp959, 0x1p960, 0x1.0000000000001p960, 0x1p970, 0x1p971, 0x1p976, 1e308, 0x1p1022, 0x1p1023, math.Nextafter(greatest, 0), greatest} {
		l = append(l, x, -x)
	}
	return l
}

// dice is a row of words that looks like none in particular, and is the same at each run.
type dice uint64

func (d *dice) roll() uint64 {
	*d = *d*6364136223846793005 + 1442695040888963407
	return uint64(*d >> 11)
}

func (d *dice) below(n int) int { return int(d.roll()>>8) % n }

// one is a finite number: of any size, at an edge, a nought, or of few bits and a size near to others.
func (d *dice) one() float64 {
	switch d.below(8) {
	case 0:
		return []float64{0, noughtBelow}[d.below(2)]
	case 1, 2:
		return edges()[d.below(len(edges()))]
	case 3, 4:
		return math.Ldexp(float64(d.below(1<<20)-1<<19), d.below(160)-80)
	}
	for {
		x := math.Float64frombits(d.roll()<<11 ^ d.roll()>>11)
		if finite(x) {
			return x
		}
	}
}

// list is so many, often with one that an earlier one cancels, or nearly.
func (d *dice) list(n int) []float64 {
	var l []float64
	for range n {
		x := d.one()
		if len(l) > 0 && d.below(3) == 0 {
			x = -l[d.below(len(l))]
			if d.below(2) == 0 && math.Abs(x) < greatest {
				x = math.Nextafter(x, inf)
			}
		}
		l = append(l, x)
	}
	return l
}

func (d *dice) shuffle(l []float64) {
	for i := range l {
		j := i + d.below(len(l)-i)
		l[i], l[j] = l[j], l[i]
	}
}
