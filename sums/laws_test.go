package sums

import (
	"math"
	"math/big"
	"slices"
	"strconv"
	"testing"

	"steelyard/api"
)

// P10.9: Exact and Alike answer the same in whatever order the list stands.
func TestOrderIsNotSeen(t *testing.T) {
	d := dice(111)
	seen := 0
	for n := range 150 {
		l, odd := d.list(n), d.list(n)
		for range n % 4 {
			odd = append(odd, d.of(few()))
		}
		turns := slices.Clone(l)
		for turn := range 6 {
			if turn > 0 {
				d.shuffle(turns)
				d.shuffle(odd)
			}
			if turn == 1 {
				slices.Reverse(turns)
			}
			for mode := range 5 {
				for _, p := range policies() {
					x, e := Exact(turns, mode, p)
					is, want := Exact(l, mode, p)
					answers(t, "Exact, in another order", x, e, is, want)
					sorted := slices.Sorted(slices.Values(odd))
					x, e = Exact(odd, mode, p)
					is, want = Exact(sorted, mode, p)
					answers(t, "Exact of all kinds, in another order", x, e, is, want)
				}
			}
			for fold := 1; fold <= 8; fold++ {
				x, e := Alike(turns, fold)
				is, want := Alike(l, fold)
				answers(t, "Alike, in another order", x, e, is, want)
			}
			if !sameBits(Running(turns), Running(l)) {
				seen++
			}
		}
	}
	if seen < 100 {
		t.Errorf("only %d orders are seen in a running sum", seen)
	}
}

// P10.9: all orders of a few numbers.
func TestAllOrders(t *testing.T) {
	l := []float64{0x1.8p0, -0x1.23456789abcdep33, 0x1p70, 0x1.fffffffffffffp-20, -0x1p70}
	first, _ := Exact(l, api.Even, api.Policy{})
	var alike [9]float64
	for fold := 1; fold <= 8; fold++ {
		alike[fold], _ = Alike(l, fold)
	}
	var each func(n int)
	each = func(n int) {
		if n == len(l) {
			x, e := Exact(l, api.Even, api.Policy{})
			answers(t, "Exact", x, e, first, api.OK)
			for fold := 1; fold <= 8; fold++ {
				x, e := Alike(l, fold)
				answers(t, "Alike", x, e, alike[fold], api.OK)
			}
		}
		for i := n; i < len(l); i++ {
			l[n], l[i] = l[i], l[n]
			each(n + 1)
			l[n], l[i] = l[i], l[n]
		}
	}
	each(0)
}

// off is how far a sum lies from the exact one, and how far it may, both 2^53 times in units.
func off(l []float64, x float64) (far, may *big.Int) {
	sum, sizes := total(l)
	far = new(big.Int).Sub(inUnits(x), sum)
	far.Lsh(far.Abs(far), 53)
	return far, sizes.Mul(sizes, big.NewInt(int64(len(l)-1)))
}

// within fails if a finite sum lies too far from the exact one; it tells how many were finite.
func within(t *testing.T, l []float64) int {
	t.Helper()
	sums := map[string]float64{"Running": Running(l), "Halving": Halving(l)}
	for _, size := range []int{1, 2, 3, 10, 256, 10000, longest} {
		sums["Blocked by "+strconv.Itoa(size)], _ = Blocked(l, size)
	}
	finite := 0
	for name, x := range sums {
		if x-x != 0 {
			continue
		}
		finite++
		if far, may := off(l, x); far.Cmp(may) > 0 {
			t.Errorf("%s of %d numbers, %x ..: %x lies too far off", name, len(l), l[:min(len(l), 8)], x)
		}
	}
	return finite
}

// P10.10: what a finite sum by Running, Halving, Blocked is off, by exact numbers.
func TestErrorIsBounded(t *testing.T) {
	d := dice(112)
	finite := 0
	for n := 1; n < 300; n++ {
		finite += within(t, d.list(n))
		finite += within(t, d.near(n))
		small := make([]float64, n)
		for i := range small {
			small[i] = d.sized(-1074, -1040)
		}
		finite += within(t, small)
	}
	if finite < 4000 {
		t.Errorf("only %d sums are finite", finite)
	}
	for _, l := range [][]float64{
		d.near(longest), often(longest, 0.1), often(longest, least), often(longest, greatest/longest), often(longest, noughtBelow),
		append([]float64{1}, often(longest-1, 0x1p-53)...), append([]float64{1}, often(longest-1, -0x1p-54)...),
	} {
		if within(t, l) == 0 {
			t.Error("no sum is finite")
		}
	}
	eachList(3, edges(), func(l []float64) { within(t, l) })
	for _, x := range edges() {
		l := []float64{x}
		if far, _ := off(l, Running(l)); far.Sign() != 0 {
			t.Errorf("of one, %x, something is lost", x)
		}
	}
}

// P10.10 asks for no less: of 1 and many halves of its step each is lost, and that is nearly all that may be off.
func TestErrorIsReached(t *testing.T) {
	l := append([]float64{1}, often(999, 0x1p-53)...)
	far, may := off(l, Running(l))
	if near := new(big.Int).Rsh(may, 40); far.Cmp(new(big.Int).Sub(may, near)) < 0 || far.Cmp(may) > 0 {
		t.Errorf("%x off, %x may be", far, may)
	}
}

// P10.11: of whole numbers that no step rounds all ways answer the same value, that of the sum in whole numbers.
func TestWholeNumbers(t *testing.T) {
	d := dice(113)
	most := 0x1p36 - 1
	lists := [][]float64{nil, {0}, {noughtBelow}, {noughtBelow, noughtBelow}, often(longest, most), often(longest, -most), often(longest, noughtBelow), often(longest, 1)}
	for n := range 100 {
		l := make([]float64, n)
		for i := range l {
			l[i] = d.whole()
		}
		lists = append(lists, l)
	}
	for _, n := range []int{longest - 1, longest} {
		l, turns := make([]float64, n), make([]float64, n)
		for i := range l {
			l[i] = d.whole()
			turns[i] = []float64{most, -most, 1}[d.below(3)]
		}
		lists = append(lists, l, turns)
	}
	for _, l := range lists {
		var sum int64
		for _, x := range l {
			sum += int64(x)
		}
		x, e := Exact(l, d.below(5), api.Policy{})
		if e != api.OK {
			t.Errorf("Exact: error %d", e)
		}
		all := []float64{x, Running(l), Halving(l), Kahan(l), Neumaier(l)}
		for _, size := range []int{1, 2, 7, 256, longest} {
			x, e := Blocked(l, size)
			if e != api.OK {
				t.Errorf("Blocked: error %d", e)
			}
			all = append(all, x)
		}
		for i, x := range all {
			if x != float64(sum) {
				t.Errorf("the way %d of %d whole numbers: %v; want %v", i, len(l), x, sum)
			}
		}
	}
}

// Exact lies nowhere further from the exact sum than any other way does; Up and Down have it between them.
func TestNothingIsNearer(t *testing.T) {
	d := dice(114)
	for n := range 200 {
		l := d.near(n)
		sum, _ := total(l)
		far := func(x float64) *big.Int {
			v := new(big.Int).Sub(inUnits(x), sum)
			return v.Abs(v)
		}
		best, _ := Exact(l, api.Even, api.Policy{})
		some, _ := Blocked(l, 5)
		alike, _ := Alike(l, 2)
		for _, x := range []float64{Running(l), Halving(l), Kahan(l), Neumaier(l), some, alike} {
			if far(x).Cmp(far(best)) < 0 {
				t.Errorf("%x lies nearer than %x", x, best)
			}
		}
		up, _ := Exact(l, api.Up, api.Policy{})
		down, _ := Exact(l, api.Down, api.Policy{})
		if inUnits(up).Cmp(sum) < 0 || inUnits(down).Cmp(sum) > 0 || up != down && math.Nextafter(down, inf) != up {
			t.Errorf("%x up, %x down", up, down)
		}
	}
}

// R2: no list that is handed in is changed, nor the spare room behind it.
func TestListsStay(t *testing.T) {
	d := dice(115)
	for n := range 40 {
		room := append(d.list(n), few()...)
		l := room[:n+n%3]
		before := slices.Clone(room)
		Exact(l, n%5, api.Policy{})
		Running(l)
		Halving(l)
		Kahan(l)
		Neumaier(l)
		Blocked(l, 1+n%7)
		Alike(l, 1+n%8)
		if !slices.EqualFunc(room, before, sameBits) {
			t.Errorf("a list of %d numbers was changed", n)
		}
		short := append(d.short(n, -149, 127), odds32()...)
		was := slices.Clone(short)
		Running32(short[:n+n%3])
		Mixed(short[:n+n%3])
		if !slices.EqualFunc(short, was, func(x, y float32) bool { return hex32(x) == hex32(y) }) {
			t.Errorf("a list of %d numbers of 32 bits was changed", n)
		}
	}
}

// R3: nil and an empty list are the same.
func TestNone(t *testing.T) {
	for _, l := range [][]float64{nil, {}, make([]float64, 0, 5)} {
		for _, x := range []float64{Running(l), Halving(l), Kahan(l), Neumaier(l)} {
			same(t, "none", x, 0)
		}
		for mode := range 5 {
			x, e := Exact(l, mode, api.Policy{})
			answers(t, "Exact of none", x, e, 0, api.OK)
		}
		x, e := Blocked(l, 1)
		answers(t, "Blocked of none", x, e, 0, api.OK)
		x, e = Alike(l, 1)
		answers(t, "Alike of none", x, e, 0, api.OK)
	}
}
