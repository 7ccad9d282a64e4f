package dyad

import (
	"math"

	"steelyard/api"
	"steelyard/bits"
	"steelyard/wide"
)

// width is a kind of numbers: how many bits they have at most, the power of two of the least one, and of the one that would follow the greatest.
type width struct {
	digits, least, top int
}

// place is where a value lies: at frac times two to the power of exp, or between that and the number that follows it, away from nought; middle is how it stands to the middle of the two.
type place struct {
	frac   uint64
	exp    int
	at     bool
	middle int
}

// Round is the number of 64 bits that a mode says.
func Round(a api.Dyad, mode int) (float64, api.Errno) {
	return round(a, mode, width{digits: 53, least: -1074, top: 1024})
}

// Round32 is the number of 32 bits that a mode says.
func Round32(a api.Dyad, mode int) (float32, api.Errno) {
	x, e := round(a, mode, width{digits: 24, least: -149, top: 128})
	if e != api.OK {
		return 0, e
	}
	// Nothing is left to be rounded but what would follow the greatest one: it becomes the infinity.
	return bits.Narrow(x, api.Even)
}

// round answers a number of that width, or what would follow its greatest one.
func round(a api.Dyad, mode int, w width) (float64, api.Errno) {
	if mode < api.Even || mode > api.Away {
		return 0, api.ErrArg
	}
	d, e := form(a)
	if e != api.OK || len(d.Mag) == 0 {
		return 0, e
	}
	p := placed(d, w)
	if !p.at && goesOut(p, mode, d.Neg) {
		p.frac++
	}
	x := math.Ldexp(float64(p.frac), p.exp)
	if d.Neg {
		// A nought that something below nought has come to has its sign, too.
		x = math.Copysign(x, -1)
	}
	return x, api.OK
}

// placed is where the form d, which is not nought, lies.
func placed(d api.Dyad, w width) place {
	size := wide.Len(d.Mag)
	if d.Exp+size > w.top {
		// Far beyond goes as what lies just below the number that would follow the greatest.
		return place{frac: 1<<w.digits - 1, exp: w.top - w.digits, middle: 1}
	}
	exp := max(d.Exp+size-w.digits, w.least)
	off := exp - d.Exp
	kept, _ := wide.Shift(d.Mag, -off)
	frac, _ := wide.Small(kept)
	p := place{frac: frac, exp: exp, at: off <= 0, middle: -1}
	switch {
	case off == 1:
		// All that is cut off is the lowest bit, and that is a one.
		p.middle = 0
	case wide.Bit(d.Mag, off-1):
		// The lowest bit, a one too, lies further below.
		p.middle = 1
	}
	return p
}

// goesOut tells whether what lies between two numbers goes to the one further from nought.
func goesOut(p place, mode int, neg bool) bool {
	switch mode {
	case api.Even:
		return p.middle > 0 || p.middle == 0 && p.frac&1 == 1
	case api.Up:
		return !neg
	case api.Down:
		return neg
	case api.Away:
		return p.middle >= 0
	}
	return false
}
