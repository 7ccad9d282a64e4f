package moment

import (
	"math/big"
	"slices"
	"testing"

	"steelyard/api"
)

// linkAs fails unless Link answers by every mode as P14.4 says of finite numbers, as many of either, and not none.
func linkAs(t *testing.T, a, b []float64) {
	t.Helper()
	want, varies := linkBy(a, b)
	for mode, is := range want {
		x, e := Link(a, b, mode)
		switch {
		case !varies:
			refuses(t, "a list that doesn't vary", x, e, api.ErrFlat)
		case !sameBits(x, is) || e != api.OK:
			t.Errorf("Link of %d numbers, %x .. and %x .., mode %d: %x, error %d; want %x", len(a), brief(a), brief(b), mode, x, e, is)
		}
	}
}

// P14.4: by hand, by each mode, and with one list turned, below nought.
func TestLinkByHand(t *testing.T) {
	almost := 1 - 0x1p-53
	for _, c := range []struct {
		name string
		a, b []float64
		is   [5]float64
	}{
		{"the same", nums(1, 2), nums(1, 2), everyMode(1)},
		{"the same, far from nought", nums(0x1p53-1, 0x1p53-2), nums(-1, -2), everyMode(1)},
		{"two of any kind", nums(0.1, 0.3), nums(-7, greatest), everyMode(1)},
		{"on a line", nums(1, 2, 5, 6), nums(-1, 1, 7, 9), everyMode(1)},
		{"a half", nums(1, -1, 0), nums(1, 0, -1), everyMode(0.5)},
		{"the root of a half", nums(1, -1, 0, 0), nums(1, -1, 1, -1), byModes(0x1.6a09e667f3bcdp-1, 0x1.6a09e667f3bccp-1, 0x1.6a09e667f3bcdp-1)},
		{"the chapter's", nums(1, 2, 3), nums(2, 4, 7), byModes(0.9933992677987828, 0.9933992677987828, 0.993399267798783)},
		{"just below 1", nums(1, -1, 0, 0), nums(1, -1, 0x1p-40, -0x1p-40), byModes(1, almost, 1)},
		{"far closer to 1", nums(1, -1, 0, 0), nums(1, -1, least, -least), byModes(1, almost, 1)},
		{"the least and the greatest", nums(0, least), nums(0, greatest), everyMode(1)},
		{"the greatest of either sign, the least of either sign", nums(greatest, -greatest), nums(least, -least), everyMode(1)},
		{"the greatest and its neighbour", nums(greatest, greatest-0x1p971), nums(1, 0), everyMode(1)},
		{"far below the least", nums(greatest, -greatest, least, -least), nums(0, 0, greatest, -greatest), under()},
		{"the least by the greatest", nums(0x1p1000, -0x1p1000, 0, 0), nums(0x1p-74, -0x1p-74, 0x1p1000, -0x1p1000), byModes(least, 0, least)},
		{"a power of two", nums(1, -1, 0, 0, 0, 0, 0, 0), nums(1, -1, 1, -1, 1, -1, 1, -1), everyMode(0.5)},
	} {
		for mode, is := range c.is {
			x, e := Link(c.a, c.b, mode)
			answers(t, c.name, x, e, is, api.OK)
			x, e = Link(c.b, c.a, mode)
			answers(t, c.name+", the other way round", x, e, is, api.OK)
			x, e = Link(turnedAll(c.a), c.b, turnedMode(mode))
			answers(t, c.name+", below nought", x, e, turned(is), api.OK)
			x, e = Link(turnedAll(c.a), turnedAll(c.b), mode)
			answers(t, c.name+", both turned", x, e, is, api.OK)
		}
		linkAs(t, c.a, c.b)
	}
}

// P14.4: what is just nought is +0 by every mode, whatever signs there are.
func TestLinkOfNought(t *testing.T) {
	d := dice(164)
	for _, c := range [][2][]float64{
		{nums(1, 2, 3), nums(1, 0, 1)}, {nums(1, 2, 3), nums(-1, 0, -1)}, {nums(greatest, -greatest, 0, 0), nums(0, 0, greatest, -greatest)},
		{nums(least, -least, noughtBelow, 0), nums(noughtBelow, noughtBelow, greatest, -greatest)}, {nums(0, 0, 1, 1), nums(0, 1, 0, 1)},
	} {
		for mode := range 5 {
			x, e := Link(c[0], c[1], mode)
			answers(t, "nought", x, e, 0, api.OK)
			x, e = Link(turnedAll(c[1]), c[0], mode)
			answers(t, "nought, turned", x, e, 0, api.OK)
		}
	}
	for n := range 40 {
		a, b := d.apart(n + 1)
		a, b = append(a, 1, -1, 0, 0), append(b, 0, 0, 1, -1)
		for mode := range 5 {
			x, e := Link(a, b, mode)
			answers(t, "many that cancel", x, e, 0, api.OK)
		}
	}
}

// P14.4: two lists of up to three numbers of some, in all ways; all edges, two and two.
func TestLinkOfEveryKind(t *testing.T) {
	some := nums(0, noughtBelow, least, 1, -1, greatest)
	for n := 1; n < 3; n++ {
		eachList(2*n, some, func(l []float64) { linkAs(t, l[:n], l[n:]) })
	}
	eachList(6, nums(0, 1, -greatest), func(l []float64) { linkAs(t, l[:3], l[3:]) })
	row := edges()
	for i, x := range row {
		for j, y := range row {
			linkAs(t, nums(x, y, 1), nums(row[(3*i+j)%len(row)], row[(i+5*j+1)%len(row)], y))
		}
	}
}

// P14.4: lists of many lengths, of like sizes and of all, close together; such that go nearly together, nearly against each other, and hardly.
func TestLinkOfMany(t *testing.T) {
	d := dice(165)
	for n := 2; n < 70; n++ {
		linkAs(t, d.list(n, d.near()), d.list(n, d.near()))
		linkAs(t, d.list(n, d.finite), d.list(n, d.finite))
		linkAs(t, d.list(n, d.close()), d.list(n, d.close()))
		a := d.list(n, func() float64 { return d.sized(-20, 20) })
		b := slices.Clone(a)
		b[d.below(n)] += d.sized(-40, -20)
		linkAs(t, a, b)
		linkAs(t, turnedAll(a), b)
		a, b = d.apart(n / 4)
		linkAs(t, append(a, d.finite(), 1), append(b, d.finite(), 2))
	}
}

// P14.4: what is just in the middle of two numbers, and a little above and below, by each mode.
func TestLinkAtMiddles(t *testing.T) {
	d := dice(166)
	for range 40 {
		// Four numbers that come to an odd number of 54 bits, and others, with which the squares come to 2^106.
		b, top := make([]float64, 4), 0
		for i := range b {
			x := 1<<51 + 2*d.below(1<<49) + i/3
			b[i], top = float64(x), top+x
		}
		b = append(b, restOf(new(big.Int).Lsh(big.NewInt(1), 106), b)...)
		a := append(often(4, 1), often(len(b)-4, 0)...)
		in, out := float64(top-1)*0x1p-54, float64(top+1)*0x1p-54
		linked(t, a, b, [5]float64{even(in, out), in, out, in, out})
		linked(t, append(a, 0), append(b, 0x1p-40), [5]float64{in, in, out, in, in})
		linked(t, append(a, 0x1p-300), append(b, 0x1p-30), [5]float64{in, in, out, in, in})
		linked(t, append(a, 0x1p-60), append(b, 0x1p-300), [5]float64{in, in, out, in, in})
		linked(t, append(a, 0x1p-60), append(b, 0x1p-8), [5]float64{out, in, out, in, out})
		linked(t, a[:len(a)-1], b[:len(b)-1], [5]float64{out, in, out, in, out})
	}
}

// restOf are whole numbers whose squares, with those of l, come to all.
func restOf(all *big.Int, l []float64) []float64 {
	left := new(big.Int).Set(all)
	take := func(x *big.Int) { left.Sub(left, new(big.Int).Mul(x, x)) }
	for _, x := range l {
		take(big.NewInt(int64(x)))
	}
	var rest []float64
	for left.Sign() > 0 {
		x := new(big.Int).Sqrt(left)
		take(x)
		rest = append(rest, float64(x.Uint64()))
	}
	return rest
}

// linked fails unless Link of both, each with itself turned behind it, so that both means are nought, is this, and below nought likewise.
func linked(t *testing.T, a, b []float64, want [5]float64) {
	t.Helper()
	a, b = slices.Concat(a, turnedAll(a)), slices.Concat(b, turnedAll(b))
	for mode, is := range want {
		x, e := Link(a, b, mode)
		answers(t, "at a middle", x, e, is, api.OK)
		x, e = Link(a, turnedAll(b), turnedMode(mode))
		answers(t, "at a middle below nought", x, e, -is, api.OK)
	}
}

// P14.4: lists of MaxList numbers are taken, whatever they come to.
func TestLinkOfLongLists(t *testing.T) {
	half := slices.Concat(often(longest/2, greatest), often(longest/2, -greatest))
	quarters := slices.Concat(often(longest/4, least), often(longest/2, -least), often(longest/4, least))
	one := append(often(longest-1, 0), 1)
	for _, c := range []struct {
		name string
		a, b []float64
		is   float64
		e    api.Errno
	}{
		{"halves", half, half, 1, api.OK},
		{"halves, one turned", half, turnedAll(half), -1, api.OK},
		{"halves and quarters", half, quarters, 0, api.OK},
		{"one place", one, one, 1, api.OK},
		{"all the same", half, often(longest, 0.1), 0, api.ErrFlat},
	} {
		x, e := Link(c.a, c.b, api.Zero)
		answers(t, c.name, x, e, c.is, c.e)
	}
	d := dice(167)
	a, b := d.list(longest, d.near()), d.list(longest, d.near())
	c := d.list(longest, d.finite)
	for _, l := range [][2][]float64{{a, b}, {c, a}} {
		is, _ := linkBy(l[0], l[1])
		x, e := Link(l[0], l[1], api.Down)
		answers(t, "MaxList numbers", x, e, is[api.Down], api.OK)
	}
}
