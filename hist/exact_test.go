package hist

import (
	"cmp"
	"math"
	"math/big"
	"slices"
	"testing"

	"steelyard/api"
)

// odd says that x is a NaN, by its bits.
func odd(x float64) bool { return hex(x)&^signBit > 0x7FF<<52 }

// value is a whole number that rises with the values of all numbers that are no NaN: both noughts are one.
func value(x float64) int64 {
	size := int64(hex(x) &^ signBit)
	if hex(x)&signBit != 0 {
		return -size
	}
	return size
}

func byValue(x, y float64) int { return cmp.Compare(value(x), value(y)) }

// areEdges is what the chapter says of a list, word by word.
func areEdges(l []float64) bool {
	for i, x := range l {
		if odd(x) || value(x) == value(inf) || value(x) == value(-inf) {
			return false
		}
		if i > 0 && value(x) <= value(l[i-1]) {
			return false
		}
	}
	return len(l) >= 2 && len(l) <= widest
}

// model counts as a Hist must, by a look at every bin.
type model struct {
	edges             []float64
	counts            []int
	below, above, odd int
}

func blank(edges []float64) *model {
	return &model{edges: slices.Clone(edges), counts: make([]int, len(edges)-1)}
}

func (m *model) add(x float64) {
	last := len(m.counts) - 1
	switch {
	case odd(x):
		m.odd++
		return
	case value(x) < value(m.edges[0]):
		m.below++
		return
	case value(x) > value(m.edges[last+1]):
		m.above++
		return
	}
	for i := range m.counts {
		under, up := value(m.edges[i]), value(m.edges[i+1])
		if value(x) >= under && value(x) < up || i == last && value(x) == up {
			m.counts[i]++
		}
	}
}

func (m *model) merge(b *model) {
	for i := range m.counts {
		m.counts[i] += b.counts[i]
	}
	m.below, m.above, m.odd = m.below+b.below, m.above+b.above, m.odd+b.odd
}

func (m *model) all() int {
	n := m.below + m.above + m.odd
	for _, c := range m.counts {
		n += c
	}
	return n
}

func (m *model) tells() told {
	n := m.below
	running := ints(n)
	for _, c := range m.counts {
		n += c
		running = append(running, n)
	}
	return told{counts: slices.Clone(m.counts), running: running, below: m.below, above: m.above, odd: m.odd, all: m.all()}
}

func alikeEdges(a, b []float64) bool {
	return slices.EqualFunc(a, b, func(x, y float64) bool { return value(x) == value(y) })
}

// twin is a Hist and what it must tell.
type twin struct {
	t *testing.T
	h *Hist
	m *model
}

func pairUp(t *testing.T, edges []float64, l ...float64) *twin {
	t.Helper()
	w := &twin{t: t, h: made(t, edges...), m: blank(edges)}
	for _, x := range l {
		w.add(x)
	}
	return w
}

func (w *twin) tells(what string) {
	w.t.Helper()
	tells(w.t, what, w.h, w.m.tells())
}

// add counts x, or is refused, as it must be.
func (w *twin) add(x float64) api.Errno {
	w.t.Helper()
	is := api.OK
	if w.m.all() >= most {
		is = api.ErrLong
	} else {
		w.m.add(x)
	}
	e := w.h.Add(x)
	want(w.t, "Add", e, is)
	return e
}

// merge counts what another one has, or is refused, as it must be; either way both tell what they must.
func (w *twin) merge(o *twin) api.Errno {
	w.t.Helper()
	is := api.OK
	switch {
	case !alikeEdges(w.m.edges, o.m.edges):
		is = api.ErrEdges
	case w.m.all()+o.m.all() > most:
		is = api.ErrLong
	default:
		w.m.merge(o.m)
	}
	e := w.h.Merge(o.h)
	want(w.t, "Merge", e, is)
	w.tells("merged into")
	o.tells("merged")
	return e
}

// many is one that has counted a list's numbers, in turn, n times in all.
func many(t *testing.T, edges []float64, n int, l ...float64) *twin {
	t.Helper()
	w := pairUp(t, edges)
	for i, x := range l {
		part := n / len(l)
		if i == 0 {
			part += n % len(l)
		}
		for power := pairUp(t, edges, x); part > 0; part /= 2 {
			if part%2 == 1 {
				w.merge(power)
			}
			if part > 1 {
				power.merge(power)
			}
		}
	}
	if w.h.All() != n {
		t.Fatalf("%d numbers: All %d", n, w.h.All())
	}
	return w
}

// worth is the size that the bits of a number without its sign stand for, as so many of the least numbers; those of the infinity stand for the number that would follow the greatest.
func worth(b uint64) *big.Int {
	e, f := int(b>>52), b&(1<<52-1)
	if e > 0 {
		f, e = f|1<<52, e-1
	}
	m := new(big.Int).SetUint64(f)
	return m.Lsh(m, uint(e))
}

// of is a finite number, as so many of the least ones.
func of(x float64) *big.Int {
	v := worth(hex(x) &^ signBit)
	if hex(x)&signBit != 0 {
		v.Neg(v)
	}
	return v
}

// once is what DOC.md's words for rounding once say of num by den (above nought) of the least numbers, by Even; nought is +0. The neighbours are looked up among all numbers; what lies between two finite ones is not beyond the greatest.
func once(num, den *big.Int) float64 {
	size := new(big.Int).Abs(num)
	stands := func(of *big.Int) int { return size.Cmp(new(big.Int).Mul(of, den)) }
	in, out := uint64(0), uint64(0x7FF<<52)
	for out-in > 1 {
		if mid := in + (out-in)/2; stands(worth(mid)) >= 0 {
			in = mid
		} else {
			out = mid
		}
	}
	size.Lsh(size, 1)
	switch stands(new(big.Int).Add(worth(in), worth(out))) {
	case 0:
		in += in % 2
	case 1:
		in = out
	}
	if num.Sign() < 0 {
		in |= signBit
	}
	return math.Float64frombits(in)
}

// place is lo + i (hi - lo) / parts, times parts, as so many of the least numbers.
func place(lo, hi float64, i, parts int) *big.Int {
	way := new(big.Int).Sub(of(hi), of(lo))
	way.Mul(way, big.NewInt(int64(i)))
	start := new(big.Int).Mul(of(lo), big.NewInt(int64(parts)))
	return start.Add(start, way)
}

// evenly is what P17.2 says of finite ends and parts that may be.
func evenly(lo, hi float64, parts int) ([]float64, api.Errno) {
	var l []float64
	for i := range parts + 1 {
		l = append(l, once(place(lo, hi, i, parts), big.NewInt(int64(parts))))
	}
	if !areEdges(l) {
		return nil, api.ErrEdges
	}
	return l, api.OK
}
