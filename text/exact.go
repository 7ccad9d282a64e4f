package text

import (
	"steelyard/dyad"
	"steelyard/wide"
)

// Exact is a number in all its decimal digits.
func Exact(x float64) string { return told(x, exactDigits) }

func exactDigits(size float64) string {
	d, _ := dyad.Of(size)
	if d.Exp >= 0 {
		return wide.Text(shifted(d.Mag, d.Exp))
	}
	// A half is five tenths: each halving takes one digit more behind the point, and of an odd Mag the last one is no nought.
	behind := -d.Exp
	digits := wide.Text(times(d.Mag, fives(behind)))
	digits = noughts(behind+1-len(digits)) + digits
	point := len(digits) - behind
	return digits[:point] + "." + digits[point:]
}
