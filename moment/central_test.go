package moment

import (
	"math"
	"slices"
	"testing"

	"steelyard/api"
)

// centralAs fails unless Central answers by every k and every mode as P14.2 says of some finite numbers.
func centralAs(t *testing.T, l []float64) {
	t.Helper()
	for k := 1; k <= 4; k++ {
		for mode, is := range centralBy(l, k) {
			x, e := Central(l, k, mode)
			if !sameBits(x, is) || e != api.OK {
				t.Errorf("Central of %d numbers, %x .., k %d, mode %d: %x, error %d; want %x", len(l), brief(l), k, mode, x, e, is)
			}
		}
	}
}

// P14.2: by hand, by each mode.
func TestCentralByHand(t *testing.T) {
	// 2/27, which is that of the third powers of 0, 0, 1.
	bit := ratioOnce(whole(2), whole(27))
	for _, c := range []struct {
		name string
		l    []float64
		k    int
		is   [5]float64
	}{
		{"one, k 1", nums(-2.5), 1, everyMode(0)},
		{"one, k 2", nums(-2.5), 2, everyMode(0)},
		{"one, k 3", nums(greatest), 3, everyMode(0)},
		{"one, k 4", nums(least), 4, everyMode(0)},
		{"k 1", nums(1, 2, 6), 1, everyMode(0)},
		{"k 1, of all sizes", nums(greatest, least, -0.1, 3), 1, everyMode(0)},
		{"k 1, noughts", nums(0, noughtBelow), 1, everyMode(0)},
		{"k 2", nums(1, 2, 6), 2, byModes(0x1.2aaaaaaaaaaabp2, 0x1.2aaaaaaaaaaaap2, 0x1.2aaaaaaaaaaabp2)},
		{"k 2, two", nums(1, 2), 2, everyMode(0.25)},
		{"k 3", nums(1, 2, 6), 3, everyMode(6)},
		{"k 3, below nought", nums(-1, -2, -6), 3, everyMode(-6)},
		{"k 3, what cancels", nums(1, 2, 3), 3, everyMode(0)},
		{"k 3, great ones that cancel", nums(greatest, 0, -greatest, noughtBelow), 3, everyMode(0)},
		{"k 3, two", nums(0.1, greatest), 3, everyMode(0)},
		{"k 3, 2/27", nums(0, 0, 1), 3, bit},
		{"k 3, 2/27, far from nought", nums(0x1p52, 0x1p52+1, 0x1p52), 3, bit},
		{"k 3, -2/27", nums(1, 1, 0), 3, [5]float64{-bit[0], -bit[1], -bit[3], -bit[2], -bit[4]}},
		{"k 3, just above nought", nums(0, 0, least), 3, under()},
		{"k 3, just below nought", nums(least, 0, least), 3, underBelow()},
		{"k 3, twice the least", nums(0, 0, 3*0x1p-358), 3, everyMode(2 * least)},
		{"k 3, the least", append(often(3, 0x1p-358), 0, 0, 3*0x1p-358), 3, everyMode(least)},
		{"k 3, half the least", append(often(9, 0x1p-358), 0, 0, 3*0x1p-358), 3, [5]float64{0, 0, least, 0, least}},
		{"k 3, less half the least", append(often(9, -0x1p-358), 0, 0, -3*0x1p-358), 3, [5]float64{noughtBelow, noughtBelow, noughtBelow, -least, -least}},
		{"k 3, beyond", nums(0, 0, greatest), 3, beyond()},
		{"k 3, beyond below nought", nums(0, 0, -greatest), 3, beyondBelow()},
		{"k 4", nums(0, 0, 3), 4, everyMode(6)},
		{"k 4, below nought", nums(-3, noughtBelow, 0), 4, everyMode(6)},
		{"k 4, two", nums(5, 1), 4, everyMode(16)},
		{"k 4, far from nought", nums(0x1p52+4, 0x1p52), 4, everyMode(16)},
		{"k 4, all the same", nums(0.1, 0.1, 0.1), 4, everyMode(0)},
		{"k 4, close to nought", nums(least, 0), 4, under()},
		{"k 4, beyond", nums(0x1p256, -0x1p256), 4, beyond()},
		{"k 4, a power of two just within", nums(0x1p255, -0x1p255), 4, everyMode(0x1p1020)},
		{"k 4, far beyond", nums(greatest, -greatest), 4, beyond()},
	} {
		for mode, is := range c.is {
			x, e := Central(c.l, c.k, mode)
			answers(t, c.name, x, e, is, api.OK)
		}
		centralAs(t, c.l)
	}
}

// P14.2: lists of up to three numbers of some, in all ways, and of two of all edges.
func TestCentralOfEveryKind(t *testing.T) {
	some := nums(0, noughtBelow, least, -least, 1, -1, 0.1, greatest, -greatest)
	for n := range 3 {
		eachList(n+1, some, func(l []float64) { centralAs(t, l) })
	}
	eachList(2, edges()[:24], func(l []float64) { centralAs(t, append(slices.Clone(l), 1)) })
}

// P14.2: lists of many lengths, of like sizes and of all, close together, at both ends of what a power may be; such that cancel, and such that nearly do.
func TestCentralOfMany(t *testing.T) {
	d := dice(155)
	for n := 1; n < 60; n++ {
		centralAs(t, d.list(n, d.near()))
		centralAs(t, d.list(n, d.finite))
		centralAs(t, d.list(n, d.close()))
		for _, size := range []int{510, 340, 255, -269, -358, -537} {
			centralAs(t, d.list(1+n%9, func() float64 { return d.sized(size-3, size+3) }))
		}
		l := d.list(n/2, d.near())
		l = d.shuffled(append(append(l, turnedAll(l)...), 0))
		centralAs(t, l)
		centralAs(t, append(l, d.sized(-1000, -900)))
	}
}

// P14.2: what is below nought goes by the mode as such; with all signs turned, third powers have the other sign, by the mode that is turned likewise, and even ones stay.
func TestCentralWithSignsTurned(t *testing.T) {
	d := dice(156)
	for n := 3; n < 60; n++ {
		l := d.list(n, func() float64 { return d.sized(-300, 300) })
		for mode := range 5 {
			x, e := Central(l, 3, mode)
			y, f := Central(turnedAll(l), 3, turnedMode(mode))
			answers(t, "third powers", y, f, -x, e)
			for _, k := range []int{2, 4} {
				x, e := Central(l, k, mode)
				y, f := Central(turnedAll(l), k, mode)
				answers(t, "even powers", y, f, x, e)
			}
		}
	}
}

// P14.2: third and fourth powers just in the middle of two numbers, by each mode.
func TestCentralAtMiddles(t *testing.T) {
	d := dice(157)
	for range 100 {
		// 0, 0 and thrice an odd number lie by once and twice that from their mean: it is twice its third power, of 54 bits.
		odd := 208065 + 2*d.below(26000)
		cube := float64(uint64(odd*odd*odd) - 1)
		third := [5]float64{even(cube, cube+2), cube, cube + 2, cube, cube + 2}
		l := nums(0, 3*float64(odd), 0)
		for mode, is := range third {
			x, e := Central(l, 3, mode)
			answers(t, "third powers", x, e, 2*is, api.OK)
			x, e = Central(turnedAll(l), 3, turnedMode(mode))
			answers(t, "third powers below nought", x, e, -2*is, api.OK)
		}
		// Two that lie twice an odd number apart: its fourth power has 54 bits.
		odd = 9743 + 2*d.below(900)
		power := float64(uint64(odd*odd*odd*odd) - 1)
		for mode, is := range [5]float64{even(power, power+2), power, power + 2, power, power + 2} {
			x, e := Central(nums(1, float64(1+2*odd)), 4, mode)
			answers(t, "fourth powers", x, e, is, api.OK)
		}
	}
}

// P14.2: lists of MaxList numbers are taken, whatever they come to.
func TestCentralOfLongLists(t *testing.T) {
	half := slices.Concat(often(longest/2, 0x1p255), often(longest/2, -0x1p255))
	for _, c := range []struct {
		name string
		l    []float64
		k    int
		is   [5]float64
	}{
		{"2^16 of the greatest", often(longest, greatest), 4, everyMode(0)},
		{"2^16 of 0.1", often(longest, 0.1), 3, everyMode(0)},
		{"half of either sign, k 2", half, 2, everyMode(0x1p510)},
		{"half of either sign, k 3", half, 3, everyMode(0)},
		{"half of either sign, k 4", half, 4, everyMode(0x1p1020)},
		{"the greatest among noughts", append(often(longest-1, 0), greatest), 4, beyond()},
		{"less the greatest among noughts", append(often(longest-1, 0), -greatest), 3, beyondBelow()},
	} {
		x, e := Central(c.l, c.k, api.Down)
		answers(t, c.name, x, e, c.is[api.Down], api.OK)
	}
	d := dice(158)
	for i, l := range [][]float64{d.list(longest, d.near()), d.list(longest, d.finite)} {
		is := centralBy(l, 3+i)
		x, e := Central(l, 3+i, api.Up)
		answers(t, "MaxList numbers", x, e, is[api.Up], api.OK)
		x, e = Central(l, 1, api.Down)
		answers(t, "MaxList numbers, k 1", x, e, 0, api.OK)
	}
}

// P14.2: a k that is none of the four is refused, whatever its size.
func TestCentralRefusesK(t *testing.T) {
	for _, k := range []int{0, 5, -1, 6, 256, 257, 1 << 32, 1<<32 + 2, -1 << 32, math.MinInt, math.MaxInt} {
		for mode := range 5 {
			x, e := Central(nums(1, 2, 4), k, mode)
			refuses(t, "a k that may not be", x, e, api.ErrArg)
		}
	}
}
