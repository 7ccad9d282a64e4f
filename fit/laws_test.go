package fit

import (
	"math"
	"slices"
	"testing"

	"steelyard/api"
)

// eachPoints hands on points of many lengths, of every kind of number, that a line goes through.
func eachPoints(seed dice, do func(d *dice, x, y []float64)) {
	d := seed
	for n := 2; n < 30; n++ {
		for _, x := range d.throws() {
			for _, y := range d.throws() {
				a, b := d.list(n, x), d.list(n, y)
				if !oneValue(a) {
					do(&d, a, b)
				}
			}
		}
	}
}

// P19.5: in whatever order the points stand, all answers are the same, errors too.
func TestOrderIsNotSeen(t *testing.T) {
	same := func(d *dice, x, y []float64) {
		a, b := d.dealt(x, y)
		at := d.finite()
		for mode := range 5 {
			f, e := Line(x, y, mode)
			g, h := Line(a, b, mode)
			fits(t, "Line", g, h, f, e)
			v, e := At(x, y, at, mode)
			w, h := At(a, b, at, mode)
			answers(t, "At", w, h, v, e)
			v, e = Through(x, y, mode)
			w, h = Through(a, b, mode)
			answers(t, "Through", w, h, v, e)
		}
	}
	eachPoints(205, same)
	d := dice(206)
	for n := range 20 {
		same(&d, d.list(n, d.finite), append(d.list(n/2, d.finite), special(n-n/2)...))
		same(&d, often(n, 0.1), d.list(n, d.finite))
	}
	x, y := d.list(longest, d.finite), d.list(longest, d.near())
	f, e := Line(x, y, api.Even)
	x, y = d.dealt(x, y)
	g, h := Line(x, y, api.Even)
	fits(t, "MaxList points", g, h, f, e)
}

// off is the exact sum of all squares of y - a - b x.
func off(x, y []float64, a, b float64) value {
	s := of(0)
	for i := range x {
		v := of(y[i]).less(of(a)).less(of(b).times(of(x[i])))
		s = s.plus(v.times(v))
	}
	return s
}

// P19.6: no line is nearer than Left by Down says: not those by the rounded numbers, nor their neighbours, nor any other.
func TestNoLineIsNearer(t *testing.T) {
	eachPoints(207, func(d *dice, x, y []float64) {
		f, e := Line(x, y, api.Down)
		if e != api.OK {
			t.Fatalf("Line of %x and %x: error %d", brief(x), brief(y), e)
		}
		left := of(f.Left)
		tries := [][2]float64{{0, 0}, {d.finite(), d.finite()}, {y[0], 0}, {d.finite(), f.Slope}, {f.Cut, d.finite()}}
		for mode := range 5 {
			g, _ := Line(x, y, mode)
			for _, to := range nums(-inf, inf) {
				tries = append(tries, [2]float64{g.Cut, g.Slope}, [2]float64{math.Nextafter(g.Cut, to), g.Slope}, [2]float64{g.Cut, math.Nextafter(g.Slope, to)})
			}
		}
		for _, c := range tries {
			a, b := c[0], c[1]
			if a-a == 0 && b-b == 0 && off(x, y, a, b).stands(left) < 0 {
				t.Errorf("%x + %x x is nearer to %x and %x than %x, which is Left by Down", a, b, brief(x), brief(y), f.Left)
			}
		}
	})
}

// P19.6: where the line's numbers are told just so, Left is what it leaves, rounded once.
func TestLeftIsWhatTheLineLeaves(t *testing.T) {
	d := dice(208)
	for range 200 {
		// As many points on either side of nought, as far: the slope and the cut are dyads of few bits.
		var x, y []float64
		for range 1 << d.below(6) {
			a, b := float64(d.below(2000)), float64(d.below(2000))
			x, y = append(x, -8, 8), append(y, a, b)
		}
		for mode := range 5 {
			f, e := Line(x, y, mode)
			answers(t, "Left", f.Left, e, ratioOnce(off(x, y, f.Cut, f.Slope), whole(1))[mode], api.OK)
		}
	}
}

// P19.7: Left is not below nought, and no -0; Told lies from 0 to 1.
func TestLeftAndToldHaveBounds(t *testing.T) {
	eachPoints(209, func(d *dice, x, y []float64) {
		for mode := range 5 {
			f, e := Line(x, y, mode)
			if e != api.OK || math.Signbit(f.Left) || !(f.Left >= 0) || math.Signbit(f.Told) || !(f.Told >= 0 && f.Told <= 1) {
				t.Errorf("Line of %x and %x, mode %d: %x, error %d", brief(x), brief(y), mode, f, e)
			}
		}
	})
}

// plain is a nought without its sign.
func plain(x float64) float64 { return x + 0 }

// P19.7: of points on a line that has numbers, the line is told: of many slopes and cuts, noughts of both signs among them, of many sizes.
func TestPointsOnALine(t *testing.T) {
	d := dice(210)
	few := func() float64 { return float64(d.below(1<<20)-1<<19) * math.Ldexp(1, -d.below(8)) }
	for n := 2; n < 40; n++ {
		for _, b := range nums(few(), 1, -1, 0, noughtBelow, 0x1p-10, few()*0x1p15) {
			for _, a := range nums(few(), 0, noughtBelow, b, 0x1p20) {
				size := math.Ldexp(1, d.below(1500)-750)
				x, y := d.list(n, func() float64 { return float64(d.below(64) - 32) }), make([]float64, n)
				x[0] = 40
				for i := range x {
					y[i] = a + b*x[i]
					if of(y[i]).stands(of(a).plus(of(b).times(of(x[i])))) != 0 {
						t.Fatalf("%x + %x times %x is no number", a, b, x[i])
					}
				}
				for mode := range 5 {
					f, e := Line(x, y, mode)
					fits(t, "on a line", f, e, api.Fit{N: n, Slope: plain(b), Cut: plain(a), Told: 1}, api.OK)
					f, e = Line(x, scaled(y, size), mode)
					fits(t, "on a line, of another size", f, e, api.Fit{N: n, Slope: plain(b * size), Cut: plain(a * size), Told: 1}, api.OK)
					f, e = Line(scaled(x, size), y, mode)
					fits(t, "on a line, of places of another size", f, e, api.Fit{N: n, Slope: plain(b / size), Cut: plain(a), Told: 1}, api.OK)
				}
			}
		}
	}
}

// scaled is each number times a power of two, which loses nothing here.
func scaled(l []float64, by float64) []float64 {
	l = slices.Clone(l)
	for i := range l {
		l[i] *= by
	}
	return l
}

// P19.7: two points always lie on a line: nothing is left, and all is told, whether or not its numbers are beyond all.
func TestTwoPointsLieOnALine(t *testing.T) {
	row := edges()
	d := dice(211)
	for _, a := range row {
		for _, b := range row {
			if a == b {
				continue
			}
			x, y := nums(a, b), nums(d.finite(), d.finite())
			for mode := range 5 {
				f, e := Line(x, y, mode)
				fits(t, "two points", f, e, api.Fit{N: 2, Slope: f.Slope, Cut: f.Cut, Told: 1}, api.OK)
				for i := range x {
					v, e := At(x, y, x[i], mode)
					answers(t, "at one of two points", v, e, plain(y[i]), api.OK)
				}
			}
		}
	}
}

// P19.8: with the signs of y turned, and the mode's, Slope and Cut turn theirs, if they are not nought; Told and Left, by the mode as it was, stay; so it goes with At and Through.
func TestSignsTurned(t *testing.T) {
	// What was rounded to a nought has its sign, and turns it: only what is just nought stays +0.
	turn := func(x float64, by value) float64 {
		if by.sign() == 0 {
			return x
		}
		return turned(x)
	}
	eachPoints(212, func(d *dice, x, y []float64) {
		m, other, at := modelOf(x, y), turnedAll(y), d.finite()
		for mode := range 5 {
			f, e := Line(x, y, mode)
			g, _ := Line(x, other, turnedMode(mode))
			h, _ := Line(x, other, mode)
			fits(t, "Line", api.Fit{N: h.N, Slope: g.Slope, Cut: g.Cut, Told: h.Told, Left: h.Left}, e,
				api.Fit{N: len(x), Slope: turn(f.Slope, m.tie), Cut: turn(f.Cut, m.ahead(of(0))), Told: f.Told, Left: f.Left}, api.OK)
			v, _ := At(x, y, at, mode)
			w, e := At(x, other, at, turnedMode(mode))
			answers(t, "At", w, e, turn(v, m.ahead(of(at))), api.OK)
			v, _ = Through(x, y, mode)
			w, e = Through(x, other, turnedMode(mode))
			answers(t, "Through", w, e, turn(v, together(each(x), each(y))), api.OK)
		}
	})
}

// P0.2: what Down and Up tell are neighbours, or the same; all other modes tell one of the two.
func TestModesAreNeighbours(t *testing.T) {
	eachPoints(213, func(d *dice, x, y []float64) {
		at := d.finite()
		var told [5][]float64
		for mode := range told {
			f, _ := Line(x, y, mode)
			v, _ := At(x, y, at, mode)
			w, _ := Through(x, y, mode)
			told[mode] = nums(f.Slope, f.Cut, f.Told, f.Left, v, w)
		}
		for i, down := range told[api.Down] {
			up := told[api.Up][i]
			if up != down && math.Nextafter(down, inf) != up {
				t.Errorf("of %x and %x: from %x to %x", brief(x), brief(y), down, up)
			}
			for mode := range told {
				if v := told[mode][i]; v != up && v != down {
					t.Errorf("of %x and %x, mode %d: %x, neither %x nor %x", brief(x), brief(y), mode, v, down, up)
				}
			}
		}
	})
}
