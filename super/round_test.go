package super

import (
	"math"
	"math/big"
	"testing"

	"steelyard/api"
)

// format is one of the two widths, as the library knows it.
type format[T float32 | float64] struct {
	near func(v *big.Float) (T, big.Accuracy) // to the nearest, of two as near the even one
	step func(x, toward T) T
	top  float64 // the power of two that follows the greatest
	bits func(x T) uint64
	nan  uint64
}

func wideFormat() format[float64] {
	return format[float64]{(*big.Float).Float64, math.Nextafter, 1024, math.Float64bits, answered}
}

func narrowFormat() format[float32] {
	bits := func(x float32) uint64 { return uint64(math.Float32bits(x)) }
	return format[float32]{(*big.Float).Float32, math.Nextafter32, 128, bits, narrow}
}

// exact is a number's value; the infinities stand where the next power of two does.
func (f format[T]) exact(x T) *big.Float {
	v := new(big.Float).SetPrec(8192)
	if math.IsInf(float64(x), 0) {
		v.SetMantExp(big.NewFloat(1), int(f.top))
		if x < 0 {
			v.Neg(v)
		}
		return v
	}
	return v.SetFloat64(float64(x))
}

// between are the greatest number that is not above v, and the least one that is not below it.
func (f format[T]) between(v *big.Float) (low, high T) {
	x, _ := f.near(v)
	if math.IsInf(float64(x), 0) {
		if x > 0 {
			return f.step(x, 0), x
		}
		return x, f.step(x, 0)
	}
	switch f.exact(x).Cmp(v) {
	case -1:
		return x, f.step(x, T(math.Inf(1)))
	case 1:
		return f.step(x, T(math.Inf(-1))), x
	}
	return x, x
}

// rounded is v (not nought), rounded once, by DOC.md's words.
func (f format[T]) rounded(v *big.Float, mode int) T {
	low, high := f.between(v)
	in, out := low, high
	if v.Sign() < 0 {
		in, out = high, low
	}
	switch mode {
	case api.Zero:
		return in
	case api.Up:
		return high
	case api.Down:
		return low
	case api.Even:
		x, _ := f.near(v)
		return x
	}
	twice := new(big.Float).SetPrec(8192).Add(v, v)
	middle := new(big.Float).SetPrec(8192).Add(f.exact(in), f.exact(out))
	if twice.Abs(twice).Cmp(middle.Abs(middle)) < 0 {
		return in
	}
	return out
}

// told is what P7.6 says, step by step.
func (f format[T]) told(m model, mode int, p api.Policy) (T, api.Errno) {
	s := m.s
	switch {
	case mode < 0 || mode > 4, p.NaN < 0 || p.NaN > 2 || p.Inf < 0 || p.Inf > 2:
		return 0, api.ErrArg
	case s.NaN > 0 && p.NaN == api.Refuse:
		return 0, api.ErrNaN
	case (s.Up > 0 || s.Down > 0) && p.Inf == api.Refuse:
		return 0, api.ErrEndless
	}
	// What is carried comes to what Go's own + makes of it.
	carried := 0.0
	if s.NaN > 0 && p.NaN == api.Carry {
		carried += hole
	}
	if s.Up > 0 && p.Inf == api.Carry {
		carried += inf
	}
	if s.Down > 0 && p.Inf == api.Carry {
		carried -= inf
	}
	if carried != 0 {
		return T(carried), api.OK
	}
	if m.units.Sign() != 0 {
		return f.rounded(real(m.units), mode), api.OK
	}
	finite := s.All - s.NaN - s.Up - s.Down
	if finite > 0 && (s.Minus == finite || s.Plus != finite && mode == api.Down) {
		return T(noughtBelow), api.OK
	}
	return 0, api.OK
}

// answered fails unless the answer has just the bits that are told: of a NaN the one that is answered.
func (f format[T]) answered(t *testing.T, what string, m model, mode int, p api.Policy, x T, e api.Errno) {
	t.Helper()
	is, wantE := f.told(m, mode, p)
	bits := f.bits(is)
	if is != is {
		bits = f.nan
	}
	if f.bits(x) != bits || e != wantE {
		t.Errorf("%s by mode %d, %+v, of %x, %+v: %v (%x), error %d; want %v (%x), error %d", what, mode, p, m.units, m.s, x, f.bits(x), e, is, bits, wantE)
	}
}

// rounds asks an accumulator for both widths; that changes nothing.
func (w *twin) rounds(mode int, p api.Policy) {
	w.t.Helper()
	x, e := w.a.Round(mode, p)
	wideFormat().answered(w.t, "Round", w.m, mode, p, x, e)
	y, e := w.a.Round32(mode, p)
	narrowFormat().answered(w.t, "Round32", w.m, mode, p, y, e)
}

// everyWay asks by every mode and every policy that may be.
func (w *twin) everyWay() {
	w.t.Helper()
	for mode := range 5 {
		for _, p := range policies() {
			w.rounds(mode, p)
		}
	}
	w.alike("after Round")
}

// strangers are policies that may not be, by either of the two, or by both.
func strangers() []api.Policy {
	var all []api.Policy
	for _, n := range []int{-1, 3, -2, 256, 1 << 32, -1 << 32, math.MinInt, math.MaxInt} {
		for in := range 3 {
			all = append(all, api.Policy{NaN: n, Inf: in}, api.Policy{NaN: in, Inf: n})
		}
		all = append(all, api.Policy{NaN: n, Inf: n}, api.Policy{NaN: n, Inf: -1})
	}
	return all
}

func noModes() []int { return []int{-1, 5, 6, -5, 256, 1 << 32, -1 << 32, math.MinInt, math.MaxInt} }

// refused fails unless both widths refuse so, with +0 beside.
func (w *twin) refused(mode int, p api.Policy, is api.Errno) {
	w.t.Helper()
	x, e := w.a.Round(mode, p)
	y, f := w.a.Round32(mode, p)
	if math.Float64bits(x) != 0 || math.Float32bits(y) != 0 || e != is || f != is {
		w.t.Errorf("by mode %d, %+v: %v, error %d; %v, error %d; want error %d", mode, p, x, e, y, f, is)
	}
}

// sorted has so many of each of the five sorts, and the plain ones that are handed in.
func sorted(t *testing.T, n [5]int, plain ...float64) *twin {
	w := pairUp(t)
	for i, x := range []float64{hole, inf, -inf, noughtBelow, 0} {
		for range n[i] {
			w.add(x)
		}
	}
	for _, x := range plain {
		w.add(x)
	}
	return w
}

// P7.6: ErrArg for the mode and for the policy go ahead of ErrNaN, and this one of ErrEndless; each ahead of all that is told.
func TestRoundRefuses(t *testing.T) {
	strict := api.Policy{NaN: api.Refuse, Inf: api.Refuse}
	for _, w := range []*twin{pairUp(t), sorted(t, [5]int{1, 1, 1, 1, 1}, 1), sorted(t, [5]int{}, 2.5), sorted(t, [5]int{0, 0, 0, 1, 0})} {
		for _, mode := range noModes() {
			for _, p := range append(policies(), strangers()...) {
				w.refused(mode, p, api.ErrArg)
			}
		}
		for mode := range 5 {
			for _, p := range strangers() {
				w.refused(mode, p, api.ErrArg)
			}
		}
		w.alike("after refusals")
	}
	for mode := range 5 {
		sorted(t, [5]int{1, 1, 0, 0, 0}, 1).refused(mode, strict, api.ErrNaN)
		sorted(t, [5]int{1, 0, 1, 0, 0}, 1).refused(mode, api.Policy{NaN: api.Refuse}, api.ErrNaN)
		sorted(t, [5]int{1, 1, 0, 0, 0}, 1).refused(mode, api.Policy{Inf: api.Refuse}, api.ErrEndless)
		sorted(t, [5]int{1, 0, 1, 0, 0}, 1).refused(mode, api.Policy{NaN: api.Pass, Inf: api.Refuse}, api.ErrEndless)
		sorted(t, [5]int{0, 1, 1, 0, 0}).refused(mode, strict, api.ErrEndless)
	}
}

// P7.6: every mode and every policy, with each sort there or not, the finite ones coming to nought or not.
func TestRoundSorts(t *testing.T) {
	for sorts := range 1 << 5 {
		var n [5]int
		for i := range n {
			n[i] = sorts >> i & 1
		}
		for _, plain := range [][]float64{nil, {1, -1}, {0.1}, {-0.1, -1e300}} {
			sorted(t, n, plain...).everyWay()
		}
	}
	for _, n := range [][5]int{{3, 0, 0, 2, 0}, {0, 2, 0, 0, 2}, {0, 1, 2, 3, 1}, {2, 0, 3, 0, 3}, {1, 1, 1, 4, 0}} {
		sorted(t, n).everyWay()
	}
}

// The counts may be as many as 2^40.
func TestRoundMany(t *testing.T) {
	for _, n := range [][5]int{{1, 0, 0, 0, 0}, {0, 1, 0, 0, 0}, {0, 0, 1, 0, 0}, {0, 0, 0, 1, 0}, {0, 0, 0, 0, 1}} {
		sorted(t, n).doubled(40).everyWay()
	}
	sorted(t, [5]int{}, 1).doubled(40).everyWay()
	sorted(t, [5]int{0, 0, 0, 1, 1}).doubled(39).everyWay()
}

// P7.6: what is told by hand: the Verdict ahead of the value, and of nought.
func TestRoundVerdict(t *testing.T) {
	for _, c := range []struct {
		n    [5]int
		p    api.Policy
		wide uint64
		slim uint32
	}{
		{[5]int{1, 0, 0, 1, 0}, api.Policy{}, answered, narrow},
		{[5]int{1, 1, 0, 0, 0}, api.Policy{NaN: api.Pass}, 0x7FF0000000000000, 0x7F800000},
		{[5]int{0, 0, 2, 0, 0}, api.Policy{NaN: api.Refuse}, 0xFFF0000000000000, 0xFF800000},
		{[5]int{0, 1, 1, 0, 0}, api.Policy{}, answered, narrow},
		{[5]int{0, 1, 1, 0, 0}, api.Policy{Inf: api.Pass}, math.Float64bits(2.5), math.Float32bits(2.5)},
		{[5]int{1, 1, 1, 0, 0}, api.Policy{NaN: api.Pass, Inf: api.Pass}, math.Float64bits(2.5), math.Float32bits(2.5)},
	} {
		for mode := range 5 {
			w := sorted(t, c.n, 2.5)
			w.rounds(mode, c.p)
			x, e := w.a.Round(mode, c.p)
			y, f := w.a.Round32(mode, c.p)
			if math.Float64bits(x) != c.wide || math.Float32bits(y) != c.slim || e != api.OK || f != api.OK {
				t.Errorf("%v by mode %d, %+v: %v, error %d; %v, error %d", c.n, mode, c.p, x, e, y, f)
			}
		}
	}
}

// A value that is no nought is rounded, though none is counted; one that is nought is +0 then, by every mode.
func TestRoundOfNone(t *testing.T) {
	w := pairUp(t)
	w.everyWay()
	w.add(3)
	w.take(1)
	w.everyWay()
	w.add(-1)
	w.take(1)
	w.everyWay()
	w.add(inf)
	w.everyWay()
	w.add(1)
	w.add(-1)
	w.everyWay()
	if x, e := pairUp(t).a.Round(api.Down, api.Policy{}); math.Float64bits(x) != 0 || e != api.OK {
		t.Errorf("none by Down: %v, error %d", x, e)
	}
}

// middles are values at which modes part, and values beside them: sums of products x times y.
func middles() [][][2]float64 {
	tiny := [2]float64{least, least}
	less := [2]float64{least, -least}
	rows := [][][2]float64{
		{{1, 1}, {0x1p-53, 1}},                // between 1 and its neighbour
		{{1, 1}, {0x1p-52, 1}, {0x1p-53, 1}},  // likewise, the other one even
		{{1, 1}, {0x1p-24, 1}},                // of 32 bits
		{{1, 1}, {0x1p-23, 1}, {0x1p-24, 1}},  //
		{{0x1p53, 1}, {1, 1}},                 //
		{{0x1p-538, 0x1p-537}},                // half the least small one
		{{0x1p-538, 0x1p-537}, {least, 1}},    // one and a half of it
		{{normal, 1}, {0x1p-538, 0x1p-537}},   // beside the least normal one
		{{normal, 1}, {0x1p-538, -0x1p-537}},  //
		{{0x1p-150, 1}},                       // the same of 32 bits
		{{0x1p-150, 3}},                       //
		{{0x1p-126, 1}, {0x1p-150, 1}},        //
		{{0x1p-126, 1}, {0x1p-150, -1}},       //
		{{greatest, 1}},                       // at the greatest
		{{greatest, 1}, {0x1p970, 1}},         // half a step beyond it
		{{huge, 2}},                           // a step beyond it
		{{math.MaxFloat32, 1}},                // the same of 32 bits
		{{math.MaxFloat32, 1}, {0x1p103, 1}},  //
		{{0x1p128, 1}},                        //
		{{greatest, greatest}},                // far beyond both
		{{least, least}},                      // far below both
		{{0x1p-600, 0x1p-600}},                //
		{{1e16, 1}, {1, 1}, {-1e16, 1}},       // what a running sum loses
		{{0.1, 1}, {0.2, 1}, {0.3, 1}},        //
		{{1e308, 1}, {1e308, 1}, {-1e308, 1}}, //
	}
	for _, r := range rows {
		rows = append(rows, append(r[:len(r):len(r)], tiny), append(r[:len(r):len(r)], less))
	}
	return rows
}

// P7.6: ties, small ones, values beyond the greatest of both widths, and what lies a unit beside them: rounded once, of either sign.
func TestRoundValues(t *testing.T) {
	for _, row := range middles() {
		for _, sign := range []float64{1, -1} {
			w := pairUp(t)
			for _, p := range row {
				w.addProduct(p[0], sign*p[1])
			}
			w.everyWay()
		}
	}
	for _, sign := range []float64{1, -1} {
		brink(t, sign).everyWay()
		empty(t, 2089, sign).everyWay()
	}
}

// What is rounded once and not twice, by hand: a unit beside a tie of either width decides it.
func TestRoundOnce(t *testing.T) {
	a := New()
	a.Add(1)
	a.Add(0x1p-24)
	a.AddProduct(least, least)
	if x, e := a.Round32(api.Even, api.Policy{}); x != 1+0x1p-23 || e != api.OK {
		t.Errorf("of 32 bits: %v, error %d", x, e)
	}
	a.TakeProduct(least, least)
	if x, e := a.Round32(api.Even, api.Policy{}); x != 1 || e != api.OK {
		t.Errorf("the tie: %v, error %d", x, e)
	}
	a.TakeProduct(least, least)
	if x, e := a.Round32(api.Away, api.Policy{}); x != 1 || e != api.OK {
		t.Errorf("below the tie: %v, error %d", x, e)
	}
	b := New()
	b.Add(0x1p53)
	b.Add(1)
	b.Add(least)
	if x, e := b.Round(api.Even, api.Policy{}); x != 0x1p53+2 || e != api.OK {
		t.Errorf("of 64 bits: %v, error %d", x, e)
	}
	c := New()
	c.AddProduct(-0x1p-538, 0x1p-537)
	for mode, bits := range []uint64{1 << 63, 1 << 63, 1 << 63, 1<<63 | 1, 1<<63 | 1} {
		if x, e := c.Round(mode, api.Policy{}); math.Float64bits(x) != bits || e != api.OK {
			t.Errorf("-2^-1075 by mode %d: %x, error %d", mode, math.Float64bits(x), e)
		}
	}
}

// Sums of numbers of all sizes, and such as nearly cancel.
func TestRoundManyValues(t *testing.T) {
	d := dice(74)
	for range 300 {
		w := pairUp(t)
		x := d.finite()
		w.add(x)
		w.add(math.Ldexp(d.finite(), -d.below(100)))
		w.addProduct(-x, 1+0x1p-52*float64(d.below(3)))
		if d.below(2) == 0 {
			w.add(math.Ldexp(float64(d.below(1<<30)), d.below(300)-150))
			w.take(x)
		}
		w.everyWay()
	}
}
