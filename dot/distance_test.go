package dot

import (
	"math"
	"testing"

	"steelyard/api"
)

// distanceAs fails unless Distance answers by every mode as P12.3 says.
func distanceAs(t *testing.T, a, b []float64) {
	t.Helper()
	for mode, is := range distanceOf(a, b) {
		x, e := Distance(a, b, mode)
		if !sameBits(x, is) || e != api.OK {
			t.Errorf("Distance of %d numbers, %x .. and %x .., mode %d: %x, error %d; want %x", len(a), brief(a), brief(b), mode, x, e, is)
		}
	}
}

// P12.3: by hand, by each mode.
func TestDistanceByHand(t *testing.T) {
	beyond := [5]float64{inf, greatest, inf, greatest, inf}
	for _, c := range []struct {
		name string
		a, b []float64
		is   [5]float64
	}{
		{"none", nil, nil, everyMode(0)},
		{"none, not nil", nums(), nil, everyMode(0)},
		{"the same", nums(0.1, -greatest, least), nums(0.1, -greatest, least), everyMode(0)},
		{"noughts of two signs", nums(0, noughtBelow), nums(noughtBelow, 0), everyMode(0)},
		{"-0 of both", nums(noughtBelow), nums(noughtBelow), everyMode(0)},
		{"1 and 1 + 2^-52", nums(1), nums(1 + 0x1p-52), everyMode(0x1p-52)},
		{"the least and less the least", nums(least), nums(-least), everyMode(2 * least)},
		{"1 and the least", nums(1), nums(least), [5]float64{1, 1 - 0x1p-53, 1, 1 - 0x1p-53, 1}},
		{"1 and less the least", nums(1), nums(-least), [5]float64{1, 1, 1 + 0x1p-52, 1, 1}},
		{"a difference that is a middle", nums(1), nums(-0x1p-53), [5]float64{1, 1, 1 + 0x1p-52, 1, 1 + 0x1p-52}},
		{"the greatest and less the greatest", nums(greatest), nums(-greatest), beyond},
		{"the middle above the greatest", nums(greatest), nums(-0x1p970), beyond},
		{"just below that middle", nums(greatest), nums(-0x1.fffffffffffffp969), [5]float64{greatest, greatest, inf, greatest, greatest}},
		{"the greatest and less the least", nums(greatest), nums(-least), [5]float64{greatest, greatest, inf, greatest, greatest}},
		{"the greatest and the least", nums(greatest), nums(least), [5]float64{greatest, math.Nextafter(greatest, 0), greatest, math.Nextafter(greatest, 0), greatest}},
		{"an infinity", nums(inf, 1), nums(0, 1), everyMode(inf)},
		{"an infinity and a nought", nums(noughtBelow), nums(-inf), everyMode(inf)},
		{"infinities of one sign at one place", nums(inf), nums(inf), everyMode(hole)},
		{"infinities of one sign below nought", nums(-inf, 1), nums(-inf, 2), everyMode(hole)},
		{"infinities of two signs at one place", nums(inf), nums(-inf), everyMode(inf)},
		{"infinities of one sign at two places", nums(inf, 1), nums(1, inf), everyMode(inf)},
		{"infinities of two signs at two places", nums(inf, -inf), nums(1, 1), everyMode(inf)},
		{"infinities of either kind", nums(inf, -inf), nums(-inf, -inf), everyMode(hole)},
		{"infinities of one sign behind an infinity", nums(inf, inf), nums(3, inf), everyMode(hole)},
		{"a NaN in the first", nums(1, hole), nums(1, 1), everyMode(hole)},
		{"a NaN in the second", nums(1, 1), nums(hole, 1), everyMode(hole)},
		{"a NaN in both", nums(hole), nums(hole), everyMode(hole)},
		{"a NaN behind an infinity", nums(inf, 1), nums(1, hole), everyMode(hole)},
		{"a NaN beside an infinity", nums(inf), nums(hole), everyMode(hole)},
	} {
		for mode, is := range c.is {
			x, e := Distance(c.a, c.b, mode)
			answers(t, c.name, x, e, is, api.OK)
			x, e = Distance(c.b, c.a, mode)
			answers(t, c.name+", turned round", x, e, is, api.OK)
		}
		distanceAs(t, c.a, c.b)
	}
}

// P12.3: a NaN of whatever bits is the one that is answered, on either side.
func TestDistanceOfNaN(t *testing.T) {
	for _, odd := range odds() {
		for _, other := range []float64{0, 1, inf, -inf, odd, greatest} {
			distanceAs(t, nums(1, odd, -inf), nums(2, other, 1))
			distanceAs(t, nums(1, other), nums(2, odd))
			x, e := Distance(nums(odd), nums(other), api.Up)
			answers(t, "a NaN", x, e, hole, api.OK)
		}
	}
}

// P12.3: differences that are legs of a middle, each told as two numbers far from each other.
func TestDistanceAtMiddles(t *testing.T) {
	d := dice(126)
	for range 300 {
		m := 90000000 + d.below(4000000)
		l, below, above := legs(m, m-1-2*d.below(1000))
		even := below
		if hex(below)%2 == 1 {
			even = above
		}
		// Both lie below 2^54, and so do these that they are cut into.
		cut := []float64{math.Floor(l[0] / 3), 2 * math.Floor(l[1]/6)}
		a, b := nums(l[0]-cut[0], cut[1]-l[1]), nums(-cut[0], cut[1])
		for mode, is := range [5]float64{even, below, above, below, above} {
			x, e := Distance(a, b, mode)
			answers(t, "a middle", x, e, is, api.OK)
		}
		distanceAs(t, a, b)
		distanceAs(t, append(a, least), append(b, 0))
		distanceAs(t, nums(math.Nextafter(a[0], 0), a[1]), b)
		distanceAs(t, a, nums(b[0], math.Nextafter(b[1], inf)))
	}
}

// P12.3: lists of every kind, and of many lengths; numbers that lie near to each other, and far apart.
func TestDistanceOfMany(t *testing.T) {
	row := append(edges(), inf, -inf, hole)
	eachList(2, row, func(l []float64) { distanceAs(t, l[:1], l[1:]) })
	eachList(4, few(), func(l []float64) { distanceAs(t, l[:2], l[2:]) })
	d := dice(127)
	for n := range 300 {
		a := d.list(n, d.near())
		distanceAs(t, a, d.list(n, d.near()))
		for i := range a {
			a[i] += math.Ldexp(a[i], -d.below(60))
		}
		distanceAs(t, a, d.list(n, func() float64 { return d.of(a) }))
		distanceAs(t, d.list(n%20, d.finite), d.list(n%20, d.finite))
		distanceAs(t, d.list(n%9, d.any), d.list(n%9, d.any))
	}
}

// P12.3: lists of MaxList numbers are taken, whatever they come to.
func TestDistanceOfLongLists(t *testing.T) {
	for _, c := range []struct {
		name string
		x, y float64
		is   [5]float64
	}{
		{"2^16 of the greatest and less the greatest", greatest, -greatest, [5]float64{inf, greatest, inf, greatest, inf}},
		{"2^16 of less the greatest and the greatest", -greatest, greatest, [5]float64{inf, greatest, inf, greatest, inf}},
		{"2^16 of the least and less the least", least, -least, everyMode(512 * least)},
		{"2^16 alike", greatest, greatest, everyMode(0)},
		{"2^16 of 3 and 1", 3, 1, everyMode(512)},
	} {
		for mode, is := range c.is {
			x, e := Distance(often(longest, c.x), often(longest, c.y), mode)
			answers(t, c.name, x, e, is, api.OK)
		}
	}
	d := dice(128)
	near := d.near()
	distanceAs(t, d.list(longest, near), d.list(longest, near))
}
