package text

import (
	"strconv"
	"strings"

	"steelyard/api"
	"steelyard/dyad"
	"steelyard/wide"
)

const (
	hexAhead   = "0x"
	hexMark    = "p"
	numberBits = 53 // of the longest Mag of a number
)

// Hex is a number in sixteenths.
func Hex(x float64) string { return told(x, hexDigits) }

func hexDigits(size float64) string {
	d, _ := dyad.Of(size)
	mag, _ := wide.Small(d.Mag)
	if mag == 0 {
		return hexAhead + pointed("0", hexMark, 0)
	}
	// With its highest bit brought to where that of the longest ones stands, a Mag reads as a 1 and thirteen sixteenths.
	n := wide.Len(d.Mag)
	all := strconv.FormatUint(mag<<(numberBits-n), 16)
	return hexAhead + pointed(strings.TrimRight(all, "0"), hexMark, d.Exp+n-1)
}

// Unhex reads what Hex tells.
func Unhex(s string) (float64, api.Errno) {
	x, ok := special(s)
	if !ok {
		rest, neg := strings.CutPrefix(s, minus)
		x = signed(unhexDigits(rest), neg)
	}
	// Each number has one text: what was read of another one tells a text that is not s.
	if Hex(x) != s {
		return 0, api.ErrForm
	}
	return x, api.OK
}

// unhexDigits is right for what Hex tells of what is finite and not below nought, and answers anything for other texts.
func unhexDigits(s string) float64 {
	rest, _ := strings.CutPrefix(s, hexAhead)
	digits, tail, _ := strings.Cut(rest, hexMark)
	mag, behind := uint64(0), 0
	pointSeen := false
	for _, r := range digits {
		if r == '.' {
			pointSeen = true
			continue
		}
		mag = mag<<4 | sixteenth(r)
		if pointSeen {
			behind++
		}
	}
	// A power out of reach makes no dyad, or one that is rounded: neither tells s.
	d, _ := dyad.Make(false, wide.Of(mag), wholePower(tail)-4*behind)
	x, _ := dyad.Round(d, api.Even)
	return x
}

func sixteenth(r rune) uint64 {
	if r >= 'a' && r <= 'f' {
		return uint64(r-'a') + 10
	}
	return uint64(r-'0') & 15
}

func wholePower(s string) int {
	power := 0
	for _, r := range s {
		if r != '+' && r != '-' {
			power = 10*power + int(r-'0')
		}
	}
	if strings.HasPrefix(s, minus) {
		return -power
	}
	return power
}
