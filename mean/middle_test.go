package mean

import (
	"math"
	"testing"

	"steelyard/api"
)

// middleAs fails unless Middle answers by every mode, and in either order, as P13.3 says.
func middleAs(t *testing.T, x, y float64) {
	t.Helper()
	m := meantBy(nums(x, y))
	for mode := range 5 {
		is, _ := m.right(mode, api.Policy{})
		for _, c := range [][2]float64{{x, y}, {y, x}} {
			got, e := Middle(c[0], c[1], mode)
			if !sameBits(got, is) || e != api.OK {
				t.Errorf("Middle of %x and %x, mode %d: %x, error %d; want %x", c[0], c[1], mode, got, e, is)
			}
		}
	}
}

// P13.3: by hand, by each mode.
func TestMiddleByHand(t *testing.T) {
	under := math.Nextafter(greatest, 0)
	for _, c := range []struct {
		name string
		x, y float64
		is   [5]float64
	}{
		{"+0, +0", 0, 0, everyMode(0)},
		{"-0, -0", noughtBelow, noughtBelow, everyMode(noughtBelow)},
		{"+0, -0", 0, noughtBelow, [5]float64{0, 0, 0, noughtBelow, 0}},
		{"1, -1", 1, -1, [5]float64{0, 0, 0, noughtBelow, 0}},
		{"the greatest, less it", greatest, -greatest, [5]float64{0, 0, 0, noughtBelow, 0}},
		{"the least, less it", least, -least, [5]float64{0, 0, 0, noughtBelow, 0}},
		{"the greatest twice", greatest, greatest, everyMode(greatest)},
		{"less the greatest twice", -greatest, -greatest, everyMode(-greatest)},
		{"the greatest and its neighbour", greatest, under, [5]float64{under, under, greatest, under, greatest}},
		{"the greatest and nought", greatest, 0, everyMode(greatest / 2)},
		{"the least and -0", least, noughtBelow, [5]float64{0, 0, least, 0, least}},
		{"less the least and +0", -least, 0, [5]float64{noughtBelow, noughtBelow, noughtBelow, -least, -least}},
		{"the least and its next", least, 2 * least, [5]float64{2 * least, least, 2 * least, least, 2 * least}},
		{"the greatest and the least", greatest, least, [5]float64{greatest / 2, greatest / 2, math.Nextafter(greatest/2, inf), greatest / 2, greatest / 2}},
		{"1 and its next", 1, 1 + 0x1p-52, [5]float64{1, 1, 1 + 0x1p-52, 1, 1 + 0x1p-52}},
		{"1, 2", 1, 2, everyMode(1.5)},
	} {
		for mode, is := range c.is {
			x, e := Middle(c.x, c.y, mode)
			answers(t, c.name, x, e, is, api.OK)
		}
		middleAs(t, c.x, c.y)
	}
}

// P13.3: each two of the edges, and many others.
func TestMiddleOfMany(t *testing.T) {
	row := edges()
	for _, x := range row {
		for _, y := range row {
			middleAs(t, x, y)
		}
	}
	d := dice(136)
	for range 2000 {
		x := d.finite()
		middleAs(t, x, d.finite())
		middleAs(t, x, turned(x))
		if y := math.Nextafter(x, inf); y-y == 0 {
			middleAs(t, x, y)
		}
	}
}
