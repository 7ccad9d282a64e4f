package hist

import (
	"fmt"
	"math"
	"math/big"
	"testing"

	"steelyard/api"
)

// gives fails unless Edges answers just this.
func gives(t *testing.T, lo, hi float64, parts int, is []float64, e api.Errno) {
	t.Helper()
	l, got := Edges(lo, hi, parts)
	what := fmt.Sprintf("Edges(%x, %x, %d)", lo, hi, parts)
	lists(t, what, l, is)
	want(t, what, got, e)
}

// exactly fails unless Edges answers what the exact values are, rounded once.
func exactly(t *testing.T, lo, hi float64, parts int) api.Errno {
	t.Helper()
	is, e := evenly(lo, hi, parts)
	gives(t, lo, hi, parts, is, e)
	return e
}

func noParts() []int {
	return []int{0, -1, -2, -widest, widest, widest + 1, 2 * widest, longest, 1 << 31, 1 << 32, 1<<32 + 1, -1<<32 + 1, math.MinInt, math.MaxInt}
}

// P17.2: parts that are none, an end that is not finite, what are no edges: the first of these is told, and no list beside it.
func TestEdgesRefusesInOrder(t *testing.T) {
	odd := append(odds(), inf, -inf)
	for _, parts := range noParts() {
		for _, x := range append(odd, ends()...) {
			gives(t, x, 1, parts, nil, api.ErrArg)
			gives(t, 1, x, parts, nil, api.ErrArg)
			gives(t, x, x, parts, nil, api.ErrArg)
		}
		gives(t, 0, 1, parts, nil, api.ErrArg)
		gives(t, 1, 0, parts, nil, api.ErrArg)
		gives(t, 0, noughtBelow, parts, nil, api.ErrArg)
		gives(t, hole, inf, parts, nil, api.ErrArg)
	}
	for _, parts := range []int{1, 2, 7, widest - 1} {
		for _, x := range odd {
			for _, y := range ends() {
				gives(t, x, y, parts, nil, api.ErrOdd)
				gives(t, y, x, parts, nil, api.ErrOdd)
			}
			for _, y := range odd {
				gives(t, x, y, parts, nil, api.ErrOdd)
			}
		}
	}
}

// P17.2: ends that are alike, both noughts, and such as fall.
func TestEdgesRefusesAlikeAndFalling(t *testing.T) {
	for _, parts := range []int{1, 2, 3, 4, 17, widest - 1} {
		for _, x := range ends() {
			gives(t, x, x, parts, nil, api.ErrEdges)
			for _, y := range ends() {
				if value(x) > value(y) {
					gives(t, x, y, parts, nil, api.ErrEdges)
				}
			}
		}
		gives(t, 0, noughtBelow, parts, nil, api.ErrEdges)
		gives(t, noughtBelow, 0, parts, nil, api.ErrEdges)
		gives(t, next(1), 1, parts, nil, api.ErrEdges)
		gives(t, greatest, -greatest, parts, nil, api.ErrEdges)
	}
}

// P17.2: so near that two come out alike: from an end on so many steps are parts enough for as many, and not for one more.
func TestEdgesSoNear(t *testing.T) {
	for _, lo := range []float64{0, noughtBelow, least, -3 * least, normal, 1, -3, 0.1, 0x1p53, -1e300, 0x1p1023} {
		for _, steps := range []int{1, 2, 3, 10, 500, widest - 2, widest - 1} {
			hi := lo
			all := nums(lo + 0) // a nought that is just so is +0
			for range steps {
				hi = next(hi)
				all = append(all, hi+0)
			}
			gives(t, lo, hi, steps, all, api.OK)
			if steps < widest-1 {
				gives(t, lo, hi, steps+1, nil, api.ErrEdges)
				gives(t, lo, hi, widest-1, nil, api.ErrEdges)
			}
			if steps > 2 {
				want(t, "fewer parts than steps", exactly(t, lo, hi, steps-1), api.OK)
			}
		}
	}
	gives(t, prev(greatest), greatest, 1, nums(prev(greatest), greatest), api.OK)
	gives(t, prev(greatest), greatest, 2, nil, api.ErrEdges)
	gives(t, -least, least, 4, nil, api.ErrEdges)
	gives(t, -least, least, 3, nil, api.ErrEdges)
	gives(t, -least, least, 2, nums(-least, 0, least), api.OK)
}

// P17.2: by hand: ties go to the one whose last bit is 0; a nought that is just so is +0, one that something was rounded to has that one's sign.
func TestEdgesByHand(t *testing.T) {
	top := 0x1p1023
	for _, c := range []struct {
		lo, hi float64
		parts  int
		is     []float64
	}{
		{0, 1, 1, nums(0, 1)},
		{noughtBelow, 1, 1, nums(0, 1)},
		{noughtBelow, 1, 2, nums(0, 0.5, 1)},
		{-1, noughtBelow, 2, nums(-1, -0.5, 0)},
		{-1, 0, 1, nums(-1, 0)},
		{-1, 1, 2, nums(-1, 0, 1)},
		{-1, 2, 3, nums(-1, 0, 1, 2)},
		{-2, 1, 3, nums(-2, -1, 0, 1)},
		{1, 2, 3, nums(1, 0x1.5555555555555p0, 0x1.aaaaaaaaaaaabp0, 2)},
		{-2, -1, 3, nums(-2, -0x1.aaaaaaaaaaaabp0, -0x1.5555555555555p0, -1)},
		{0, 1, 10, nums(0, 0.1, 0.2, 0.3, 0.4, 0.5, 0.6, 0.7, 0.8, 0.9, 1)},
		{1, 1 + 3*0x1p-52, 2, nums(1, 1+2*0x1p-52, 1+3*0x1p-52)},
		{1 + 0x1p-52, 1 + 4*0x1p-52, 2, nums(1+0x1p-52, 1+2*0x1p-52, 1+4*0x1p-52)},
		{-1 - 4*0x1p-52, -1 - 0x1p-52, 2, nums(-1-4*0x1p-52, -1-2*0x1p-52, -1-0x1p-52)},
		{0, 3 * least, 2, nums(0, 2*least, 3*least)},
		{least, 4 * least, 2, nums(least, 2*least, 4*least)},
		{-least, 2 * least, 2, nums(-least, 0, 2*least)},
		{-2 * least, least, 2, nums(-2*least, noughtBelow, least)},
		{-3 * least, 0, 2, nums(-3*least, -2*least, 0)},
		{-2 * least, 2 * least, 3, nums(-2*least, -least, least, 2*least)},
		{-4 * least, 3 * least, 3, nums(-4*least, -2*least, least, 3*least)},
		{-greatest, greatest, 1, nums(-greatest, greatest)},
		{-greatest, greatest, 4, nums(-greatest, -greatest/2, 0, greatest/2, greatest)},
		{0, greatest, 2, nums(0, greatest/2, greatest)},
		{-greatest, 0, 2, nums(-greatest, -greatest/2, 0)},
		{prev(prev(prev(greatest))), greatest, 2, nums(prev(prev(prev(greatest))), prev(greatest), greatest)},
		{-top, top, 2, nums(-top, 0, top)},
		{-top, greatest, 1, nums(-top, greatest)},
		{least, 1, 1, nums(least, 1)},
		{least, 1, 2, nums(least, 0.5, 1)},
		{-least, 1, 2, nums(-least, 0.5, 1)},
		{least, greatest, 2, nums(least, greatest/2, greatest)},
	} {
		gives(t, c.lo, c.hi, c.parts, c.is, api.OK)
		exactly(t, c.lo, c.hi, c.parts)
	}
}

// P17.2: every two ends of all numbers, by few parts and by some.
func TestEdgesOfEnds(t *testing.T) {
	for _, lo := range ends() {
		for _, hi := range ends() {
			if value(lo) >= value(hi) {
				continue
			}
			for parts := 1; parts < 6; parts++ {
				exactly(t, lo, hi, parts)
			}
		}
	}
}

// P17.2: few parts, many, and as many as may be.
func TestEdgesOfManyParts(t *testing.T) {
	for parts := 1; parts < widest; parts += 1 + parts/40 {
		exactly(t, 0, 1, parts)
		exactly(t, -greatest, greatest, parts)
		exactly(t, 0, float64(parts)*least, parts)
	}
	for _, parts := range []int{widest - 2, widest - 1} {
		for _, two := range [][2]float64{{0, 1}, {noughtBelow, 0.1}, {-1, 1}, {-greatest, greatest}, {0, greatest}, {-1023 * least, 1023 * least}, {1e300, 2e300}, {0.1, 0.3}} {
			want(t, "as many as may be", exactly(t, two[0], two[1], parts), api.OK)
		}
	}
}

// P17.2: many ends and parts.
func TestEdgesOfMany(t *testing.T) {
	d := dice(171)
	seen := map[api.Errno]int{}
	for range 1500 {
		lo, hi := d.finite(), d.finite()
		if d.below(3) == 0 {
			lo = d.sized(-1080, 1022)
			hi = math.Float64frombits(hex(lo) + uint64(d.below(40)))
		}
		if value(lo) > value(hi) {
			lo, hi = hi, lo
		}
		seen[exactly(t, lo, hi, 1+d.below(1<<d.below(7)))]++
	}
	if seen[api.OK] < 500 || seen[api.ErrEdges] < 100 {
		t.Errorf("%d were edges, %d were none", seen[api.OK], seen[api.ErrEdges])
	}
}

// P17.6: the first one is lo, the last one hi, as values; they are edges, and each lies no further than half a step from its exact place.
func TestEdgesLieEvenly(t *testing.T) {
	d := dice(172)
	for range 400 {
		lo, hi, parts := d.finite(), d.finite(), 1+d.below(60)
		if value(lo) > value(hi) {
			lo, hi = hi, lo
		}
		l, e := Edges(lo, hi, parts)
		if e != api.OK {
			continue
		}
		if len(l) != parts+1 || l[0] != lo || l[parts] != hi {
			t.Errorf("Edges(%x, %x, %d): %d, %x", lo, hi, parts, len(l), brief(l))
			continue
		}
		made(t, l...)
		for i, x := range l {
			exact, by := place(lo, hi, i, parts), big.NewInt(int64(parts))
			off := new(big.Int).Mul(of(x), by)
			off.Sub(exact, off)
			step := new(big.Int)
			switch off.Sign() {
			case 1:
				step.Sub(of(next(x)), of(x))
			case -1:
				step.Sub(of(x), of(prev(x)))
			}
			if off.Abs(off).Lsh(off, 1).Cmp(step.Mul(step, by)) > 0 {
				t.Errorf("Edges(%x, %x, %d): %x at %d lies further than half a step off", lo, hi, parts, x, i)
			}
		}
	}
}
