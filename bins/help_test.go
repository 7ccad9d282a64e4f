package bins

import (
	"fmt"
	"math"
	"math/big"
	"slices"
	"testing"

	"steelyard/api"
)

const (
	least    = 0x1p-1074
	normal   = 0x1p-1022 // the least one
	greatest = math.MaxFloat64
	most     = 1 << 40 // numbers that Bins have
	folds    = 8
	lowest   = -34 // the bins in which numbers have slices
	highest  = 31
	units    = -1088 // two to the power of this is where the lowest of them begins
)

var (
	inf         = math.Inf(1)
	noughtBelow = math.Copysign(0, -1)
)

// model is Bins by the chapter's words: it has the slices of all bins, those that are not kept too, added up by the library's whole numbers.
type model struct {
	fold  int
	count int
	bins  [highest - lowest + 1]big.Int
	any   bool
	top   int
}

func blank(fold int) *model { return &model{fold: fold} }

func (m *model) same() *model {
	c := &model{fold: m.fold, count: m.count, any: m.any, top: m.top}
	for i := range m.bins {
		c.bins[i].Set(&m.bins[i])
	}
	return c
}

// inUnits is a finite number's value, in units.
func inUnits(x float64) *big.Int {
	v := big.NewFloat(x)
	n, how := v.SetMantExp(v, -units).Int(nil)
	if how != big.Exact {
		panic("a unit is too great")
	}
	return n
}

// real is a value of so many units.
func real(n *big.Int) *big.Float {
	v := new(big.Float).SetPrec(8192).SetInt(n)
	return v.SetMantExp(v, units)
}

func finite(x float64) bool { return x-x == 0 }

// slice is what a finite number has in the bin j.
func slice(x float64, j int) *big.Int {
	n := inUnits(math.Abs(x))
	n.Rsh(n, uint(32*(j-lowest)))
	n.And(n, big.NewInt(1<<32-1))
	if math.Signbit(x) {
		n.Neg(n)
	}
	return n
}

func (m *model) add(x float64) api.Errno {
	switch {
	case m.count == most:
		return api.ErrLong
	case !finite(x):
		return api.ErrOdd
	}
	for i := range m.bins {
		n := slice(x, lowest+i)
		m.bins[i].Add(&m.bins[i], n)
		if n.Sign() != 0 && (!m.any || lowest+i > m.top) {
			m.any, m.top = true, lowest+i
		}
	}
	m.count++
	return api.OK
}

func (m *model) merge(o *model) api.Errno {
	switch {
	case m.fold != o.fold:
		return api.ErrArg
	case m.count+o.count > most:
		return api.ErrLong
	}
	for i := range m.bins {
		m.bins[i].Add(&m.bins[i], &o.bins[i])
	}
	if o.any && (!m.any || o.top > m.top) {
		m.any, m.top = true, o.top
	}
	m.count += o.count
	return api.OK
}

// from is the sum of the bins from j on, in units.
func (m *model) from(j int) *big.Int {
	sum := new(big.Int)
	for i := range m.bins {
		if lowest+i >= j {
			sum.Add(sum, new(big.Int).Lsh(&m.bins[i], uint(32*i)))
		}
	}
	return sum
}

// sum is the exact one.
func (m *model) sum() *big.Int { return m.from(lowest) }

func (m *model) keptFrom() int { return m.top - m.fold + 1 }

func (m *model) kept() *big.Int {
	if !m.any {
		return new(big.Int)
	}
	return m.from(m.keptFrom())
}

// bound is Count times two to the power of 32 times the lowest kept bin.
func (m *model) bound() *big.Float {
	if !m.any {
		return new(big.Float)
	}
	v := big.NewFloat(float64(m.count))
	return v.SetMantExp(v, 32*m.keptFrom())
}

// upward is the least number that is not below a value that is not below nought.
func upward(v *big.Float) float64 {
	x, _ := v.Float64()
	if !math.IsInf(x, 1) && big.NewFloat(x).Cmp(v) < 0 {
		x = math.Nextafter(x, inf)
	}
	return x
}

// formed is the form of so many units, as chapter 3 has it.
func formed(n *big.Int) api.Dyad {
	if n.Sign() == 0 {
		return api.Dyad{}
	}
	low := n.TrailingZeroBits()
	b := new(big.Int).Rsh(new(big.Int).Abs(n), low).Bytes()
	mag := make(api.Nat, (len(b)+3)/4)
	for i := range b {
		mag[i/4] |= uint32(b[len(b)-1-i]) << (8 * (i % 4))
	}
	return api.Dyad{Neg: n.Sign() < 0, Mag: mag, Exp: int(low) + units}
}

func alike(a, b api.Dyad) bool {
	return a.Neg == b.Neg && a.Exp == b.Exp && slices.Equal(a.Mag, b.Mag)
}

func sameBits(x, y float64) bool { return math.Float64bits(x) == math.Float64bits(y) }

// has fails unless the Bins have just what the model has.
func has(t *testing.T, what string, b *Bins, m *model) {
	t.Helper()
	if d, want := b.Kept(), formed(m.kept()); !alike(d, want) {
		t.Errorf("%s: Kept is {%t %x %d}; want {%t %x %d}", what, d.Neg, d.Mag, d.Exp, want.Neg, want.Mag, want.Exp)
	}
	if b.Count() != m.count || b.Fold() != m.fold {
		t.Errorf("%s: Count %d, Fold %d; want %d, %d", what, b.Count(), b.Fold(), m.count, m.fold)
	}
	if x, is := b.Bound(), upward(m.bound()); !sameBits(x, is) {
		t.Errorf("%s: Bound %x; want %x", what, x, is)
	}
}

// twin is Bins with their model beside them: each call is made on both, and each must leave both alike.
type twin struct {
	t *testing.T
	b *Bins
	m *model
}

func pairUp(t *testing.T, fold int, l ...float64) *twin {
	t.Helper()
	w := &twin{t, New(fold), blank(fold)}
	w.alike("New")
	for _, x := range l {
		want(t, "Add", w.add(x), api.OK)
	}
	return w
}

func (w *twin) alike(what string) {
	w.t.Helper()
	has(w.t, what, w.b, w.m)
}

func (w *twin) answers(what string, e, is api.Errno) api.Errno {
	w.t.Helper()
	want(w.t, what, e, is)
	w.alike(what)
	return e
}

func (w *twin) add(x float64) api.Errno {
	w.t.Helper()
	return w.answers(fmt.Sprintf("Add(%v)", x), w.b.Add(x), w.m.add(x))
}

func (w *twin) merge(o *twin) api.Errno {
	w.t.Helper()
	before := o.m.same()
	e := w.answers("Merge", w.b.Merge(o.b), w.m.merge(before))
	if o != w {
		has(w.t, "what is merged", o.b, before)
	}
	return e
}

// tells asks for all that Bins tell; that changes nothing.
func (w *twin) tells() {
	w.t.Helper()
	for mode := range 5 {
		x, e := w.b.Round(mode)
		if is := rounded(w.m.kept(), mode); !sameBits(x, is) || e != api.OK {
			w.t.Errorf("Round(%d) of %x: %x, error %d; want %x", mode, w.m.kept(), x, e, is)
		}
	}
	w.alike("after all was told")
}

// want fails unless the answer is just this one.
func want(t *testing.T, what string, e, is api.Errno) {
	t.Helper()
	if e != is {
		t.Errorf("%s: error %d; want %d", what, e, is)
	}
}

// doubled merges itself n times.
func (w *twin) doubled(n int) *twin {
	w.t.Helper()
	for range n {
		want(w.t, "Merge with itself", w.merge(w), api.OK)
	}
	return w
}

// many have x so many times.
func many(t *testing.T, fold, n int, x float64) *twin {
	t.Helper()
	w, power := pairUp(t, fold), pairUp(t, fold, x)
	for ; n > 0; n /= 2 {
		if n%2 == 1 {
			want(t, "Merge", w.merge(power), api.OK)
		}
		if n > 1 {
			power.doubled(1)
		}
	}
	return w
}

// filled have just these numbers.
func filled(fold int, l ...float64) *Bins {
	b := New(fold)
	for _, x := range l {
		b.Add(x)
	}
	return b
}

// odds are NaNs of many bits, quiet ones and others, of either sign.
func odds() []float64 {
	var l []float64
	d := dice(90)
	for _, sign := range []uint64{0, 1 << 63} {
		for _, frac := range []uint64{1, 2, 1 << 50, 1 << 51, 1<<51 | 1, 1<<52 - 1, 1<<51 - 1, 1 + d.roll()%(1<<52-1)} {
			l = append(l, math.Float64frombits(sign|0x7FF<<52|frac))
		}
	}
	return l
}

// endless are what no Bins take.
func endless() []float64 { return append(odds(), inf, -inf) }

// edges are finite ones that are no nought, of either sign: at the ends of all numbers, at the ends of bins, with slices in one, two and three bins.
func edges() []float64 {
	var l []float64
	for _, x := range []float64{
		least, 2 * least, 3 * least, 0x1p-1057, 0x1p-1056 - least, 0x1p-1056, 0x1p-1056 + least, normal - least, normal, normal + least,
		0x1p-64, 0x1p-33, 0x1p-32, 0x1.fffffffffffffp-33, 0x1.0000000000001p-1, 0.1, 1 - 0x1p-53, 1, 1 + 0x1p-52, 2.5,
		0x1p32 - 1, 0x1p32, 0x1p32 + 1, 0x1p32 + 0x1p-20, 0x1.fffffffffffffp31, 0x1.fffffffffffffp52, 0x1p53, 0x1.fffffffffffffp63, 0x1p64, 0x1p64 + 0x1p12,
		0x1.0000000000001p64, 0x1p224, 0x1p256, 0x1p991, 0x1p992, 0x1.fffffffffffffp991, 0x1.0000000000001p992, 1e308, 0x1p1022, 0x1p1023, greatest,
	} {
		l = append(l, x, -x)
	}
	return l
}

// dice is a row of words that looks like none in particular, and is the same at each run.
type dice uint64

func (d *dice) roll() uint64 {
	*d = *d*6364136223846793005 + 1442695040888963407
	return uint64(*d >> 11)
}

func (d *dice) below(n int) int { return int(d.roll()>>8) % n }

func (d *dice) fold() int { return 1 + d.below(folds) }

// one is a finite number: of any size, at an edge, a nought, or of a size near to others.
func (d *dice) one() float64 {
	switch d.below(8) {
	case 0:
		return []float64{0, noughtBelow}[d.below(2)]
	case 1, 2:
		return edges()[d.below(len(edges()))]
	case 3:
		return math.Ldexp(float64(d.below(1<<20)-1<<19), d.below(160)-80)
	case 4, 5:
		return math.Ldexp(float64(d.below(1<<40))*0x1.8p12-0x1p52, d.below(200)-150)
	}
	for {
		x := math.Float64frombits(d.roll()<<11 ^ d.roll()>>11)
		if finite(x) {
			return x
		}
	}
}

// list is so many, of like sizes or of all, often with one that an earlier one cancels, or nearly.
func (d *dice) list(n int) []float64 {
	var l []float64
	for range n {
		x := d.one()
		if len(l) > 0 && d.below(3) == 0 {
			x = -l[d.below(len(l))]
			if d.below(2) == 0 && math.Abs(x) < greatest {
				x = math.Nextafter(x, inf)
			}
		}
		l = append(l, x)
	}
	return l
}

func (d *dice) shuffle(l []float64) {
	for i := range l {
		j := i + d.below(len(l)-i)
		l[i], l[j] = l[j], l[i]
	}
}
