package super

import (
	"fmt"
	"math"
	"math/big"
	"slices"
	"strconv"
	"testing"

	"steelyard/api"
)

const (
	least    = 0x1p-1074
	normal   = 0x1p-1022 // the least one
	greatest = math.MaxFloat64
	huge     = 0x1p1023
	answered = 0x7FF8000000000000 // the bits of the NaN that is answered
	narrow   = 0x7FC00000         // and of the one of 32 bits
	most     = 1 << 40            // of All
)

var (
	inf         = math.Inf(1)
	hole        = math.NaN()
	noughtBelow = math.Copysign(0, -1)
)

// model is an accumulator by the chapter's words: the value is counted in units of 2^-2148 by the library's whole numbers, the counts by the words for sorts.
type model struct {
	units *big.Int
	s     api.Specials
}

func blank() model { return model{units: new(big.Int)} }

func (m model) same() model { return model{new(big.Int).Set(m.units), m.s} }

// item is a thing: the word for its sort, and what a plain one is worth.
type item struct {
	word  string
	units *big.Int
}

// single is a number as a thing. The sorts are told by the library's words for numbers.
func single(x float64) item {
	word := strconv.FormatFloat(x, 'g', -1, 64)
	switch word {
	case "NaN", "+Inf", "-Inf", "-0", "0":
		return item{word, nil}
	}
	return item{"plain", inUnits(new(big.Float).SetFloat64(x))}
}

// unit is 1 with x's sign, where x is finite and no nought: it keeps its sort, but no product of such ones is too small or too great.
func unit(x float64) float64 {
	if x != x || x-x != 0 || x == 0 {
		return x
	}
	return math.Copysign(1, x)
}

// couple is a product as a thing. The sort is what Go's own * makes of both.
func couple(x, y float64) item {
	i := single(unit(x) * unit(y))
	if i.word == "plain" {
		exact := new(big.Float).SetPrec(106)
		i.units = inUnits(exact.Mul(big.NewFloat(x), big.NewFloat(y)))
	}
	return i
}

func inUnits(v *big.Float) *big.Int {
	n, how := new(big.Float).SetMantExp(v, 2148).Int(nil)
	if how != big.Exact {
		panic("a unit is too great")
	}
	return n
}

// real is a value of so many units.
func real(units *big.Int) *big.Float {
	v := new(big.Float).SetPrec(8192).SetInt(units)
	return v.SetMantExp(v, -2148)
}

func power(i int) *big.Int { return new(big.Int).Lsh(big.NewInt(1), uint(i+2148)) }

func (m *model) count(word string) *int {
	switch word {
	case "NaN":
		return &m.s.NaN
	case "+Inf":
		return &m.s.Up
	case "-Inf":
		return &m.s.Down
	case "-0":
		return &m.s.Minus
	case "0":
		return &m.s.Plus
	}
	rest := m.s.All - m.s.NaN - m.s.Up - m.s.Down - m.s.Minus - m.s.Plus
	return &rest
}

// move gives the value so many units more, unless that is too much.
func (m *model) move(units *big.Int) api.Errno {
	sum := new(big.Int).Add(m.units, units)
	if sum.CmpAbs(power(2090)) >= 0 {
		return api.ErrLong
	}
	m.units = sum
	return api.OK
}

func (m *model) add(i item) api.Errno {
	if m.s.All == most {
		return api.ErrLong
	}
	if i.word == "plain" {
		if e := m.move(i.units); e != api.OK {
			return e
		}
	}
	*m.count(i.word)++
	m.s.All++
	return api.OK
}

func (m *model) take(i item) api.Errno {
	if *m.count(i.word) == 0 {
		return api.ErrNone
	}
	if i.word == "plain" {
		if e := m.move(new(big.Int).Neg(i.units)); e != api.OK {
			return e
		}
	}
	*m.count(i.word)--
	m.s.All--
	return api.OK
}

func (m *model) merge(o model) api.Errno {
	if m.s.All+o.s.All > most {
		return api.ErrLong
	}
	if e := m.move(o.units); e != api.OK {
		return e
	}
	m.s = sumOf(m.s, o.s)
	return api.OK
}

func sumOf(a, b api.Specials) api.Specials {
	return api.Specials{NaN: a.NaN + b.NaN, Up: a.Up + b.Up, Down: a.Down + b.Down, Minus: a.Minus + b.Minus, Plus: a.Plus + b.Plus, All: a.All + b.All}
}

// formed is the form of so many units, as chapter 3 has it.
func formed(units *big.Int) api.Dyad {
	if units.Sign() == 0 {
		return api.Dyad{}
	}
	low := units.TrailingZeroBits()
	b := new(big.Int).Rsh(new(big.Int).Abs(units), low).Bytes()
	mag := make(api.Nat, (len(b)+3)/4)
	for i := range b {
		mag[i/4] |= uint32(b[len(b)-1-i]) << (8 * (i % 4))
	}
	return api.Dyad{Neg: units.Sign() < 0, Mag: mag, Exp: int(low) - 2148}
}

func alike(a, b api.Dyad) bool {
	return a.Neg == b.Neg && a.Exp == b.Exp && slices.Equal(a.Mag, b.Mag)
}

// twin is an accumulator with its model beside it: each call is made on both, and each must leave both alike.
type twin struct {
	t *testing.T
	a *Acc
	m model
}

func pairUp(t *testing.T) *twin {
	w := &twin{t, New(), blank()}
	w.alike("New")
	return w
}

func (w *twin) alike(what string) {
	w.t.Helper()
	has(w.t, what, w.a, w.m)
}

// has fails unless the accumulator has just what the model has.
func has(t *testing.T, what string, a *Acc, m model) {
	t.Helper()
	if d, want := a.Exact(), formed(m.units); !alike(d, want) {
		t.Errorf("%s: Exact is {%t %x %d}; want {%t %x %d}", what, d.Neg, d.Mag, d.Exp, want.Neg, want.Mag, want.Exp)
	}
	if s := a.Specials(); s != m.s {
		t.Errorf("%s: Specials are %+v; want %+v", what, s, m.s)
	}
}

func (w *twin) answers(what string, e, want api.Errno) api.Errno {
	w.t.Helper()
	if e != want {
		w.t.Errorf("%s: error %d; want %d", what, e, want)
	}
	w.alike(what)
	return e
}

func (w *twin) add(x float64) api.Errno {
	w.t.Helper()
	return w.answers(fmt.Sprintf("Add(%v)", x), w.a.Add(x), w.m.add(single(x)))
}

func (w *twin) take(x float64) api.Errno {
	w.t.Helper()
	return w.answers(fmt.Sprintf("Take(%v)", x), w.a.Take(x), w.m.take(single(x)))
}

func (w *twin) addProduct(x, y float64) api.Errno {
	w.t.Helper()
	return w.answers(fmt.Sprintf("AddProduct(%v, %v)", x, y), w.a.AddProduct(x, y), w.m.add(couple(x, y)))
}

func (w *twin) takeProduct(x, y float64) api.Errno {
	w.t.Helper()
	return w.answers(fmt.Sprintf("TakeProduct(%v, %v)", x, y), w.a.TakeProduct(x, y), w.m.take(couple(x, y)))
}

func (w *twin) merge(o *twin) api.Errno {
	w.t.Helper()
	before := o.m.same()
	e := w.answers("Merge", w.a.Merge(o.a), w.m.merge(before))
	if o != w {
		has(w.t, "what is merged", o.a, before)
	}
	return e
}

func (w *twin) copy() *twin {
	w.t.Helper()
	c := &twin{w.t, w.a.Copy(), w.m.same()}
	c.alike("Copy")
	w.alike("what is copied")
	return c
}

// want fails unless the answer is just this one.
func want(t *testing.T, what string, e, is api.Errno) {
	t.Helper()
	if e != is {
		t.Errorf("%s: error %d; want %d", what, e, is)
	}
}

// doubled merges itself n times.
func (w *twin) doubled(n int) *twin {
	w.t.Helper()
	for range n {
		want(w.t, "Merge with itself", w.merge(w), api.OK)
	}
	return w
}

// empty has the value 2^i (i from 2047 to 2089), or less that, and counts none: what is added and taken is not asked to be the same.
func empty(t *testing.T, i int, sign float64) *twin {
	t.Helper()
	w := pairUp(t)
	w.addProduct(huge, sign*huge)
	w.takeProduct(huge, -sign*huge)
	return w.doubled(i - 2047)
}

// brink has one unit less than 2^2090, or less that, and counts one plain thing.
func brink(t *testing.T, sign float64) *twin {
	t.Helper()
	w := empty(t, 2089, sign)
	o := w.copy()
	want(t, "a unit towards nought", o.addProduct(least, -sign*least), api.OK)
	want(t, "Merge to the brink", w.merge(o), api.OK)
	edge := new(big.Int).Sub(power(2090), big.NewInt(1))
	if w.m.units.CmpAbs(edge) != 0 || w.m.units.Sign() != int(sign) || w.m.s != (api.Specials{All: 1}) {
		t.Fatalf("the brink is %x, %+v", w.m.units, w.m.s)
	}
	return w
}

// odds are NaNs of many bits, quiet ones and others, of either sign.
func odds() []float64 {
	var l []float64
	d := dice(70)
	for _, sign := range []uint64{0, 1 << 63} {
		for _, frac := range []uint64{1, 2, 1 << 50, 1 << 51, 1<<51 | 1, 1<<52 - 1, 1<<51 - 1, 1 + d.roll()%(1<<52-1)} {
			l = append(l, math.Float64frombits(sign|0x7FF<<52|frac))
		}
	}
	return l
}

// plains are the edges among finite ones that are no nought, of either sign.
func plains() []float64 {
	var l []float64
	for _, x := range []float64{least, 2 * least, 3 * least, normal - least, normal, normal + least, 0x1p-538, 0x1p-537, 0.1, 1 - 0x1p-53, 1, 1 + 0x1p-52, 2.5, 0x1p53 - 1, 0x1p53, 0x1p512, 0x1.fffffffffffffp511, huge, math.Nextafter(greatest, 0), greatest} {
		l = append(l, x, -x)
	}
	return l
}

// edges are of all sorts.
func edges() []float64 {
	return slices.Concat(odds(), []float64{inf, -inf, 0, noughtBelow}, plains())
}

// dice is a row of words that looks like none in particular, and is the same at each run.
type dice uint64

func (d *dice) roll() uint64 {
	*d = *d*6364136223846793005 + 1442695040888963407
	return uint64(*d >> 11)
}

func (d *dice) below(n int) int { return int(d.roll()>>8) % n }

// one is of any sort, most often plain.
func (d *dice) one() float64 {
	switch d.below(12) {
	case 0:
		return odds()[d.below(len(odds()))]
	case 1:
		return inf
	case 2:
		return -inf
	case 3:
		return 0
	case 4:
		return noughtBelow
	case 5, 6, 7:
		return d.finite()
	}
	return plains()[d.below(len(plains()))]
}

// finite is one of any size.
func (d *dice) finite() float64 {
	for {
		x := math.Float64frombits(d.roll()<<11 ^ d.roll()>>11)
		if x-x == 0 {
			return x
		}
	}
}

// step is any one of the four calls with any numbers.
func (w *twin) step(d *dice) api.Errno {
	w.t.Helper()
	x, y := d.one(), d.one()
	switch d.below(4) {
	case 0:
		return w.add(x)
	case 1:
		return w.take(x)
	case 2:
		return w.addProduct(x, y)
	}
	return w.takeProduct(x, y)
}

// policies are the nine that may be.
func policies() []api.Policy {
	var all []api.Policy
	for n := range 3 {
		for i := range 3 {
			all = append(all, api.Policy{NaN: n, Inf: i})
		}
	}
	return all
}
