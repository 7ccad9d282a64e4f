package text

import (
	"strings"

	"steelyard/api"
	"steelyard/dyad"
	"steelyard/wide"
)

// Where in a text of digits the reading stands: what was the last sign read.
const (
	wrong   = iota
	atStart // nothing was
	inWhole // a digit ahead of the point
	atPoint // the point
	inPart  // a digit behind the point
	atMark  // the e
	atSign  // the sign behind e
	inPower // a digit behind e
)

const (
	// farthest is where a power of ten is held: MaxDigits digits don't bring a number back from there.
	farthest = 1000000
	// What is at least ten to the power of highest lies beyond the greatest number by more than a step; what is below ten to the power of lowest, below half of the least one.
	highest = 310
	lowest  = -330
	// spareBits are more than a number and the middle of two have.
	spareBits = 64
)

// decimal is a text of digits, taken apart.
type decimal struct {
	body   []byte // the digits ahead of e, at most MaxDigits of them
	behind int    // how many of them stand behind the point
	power  int    // the size of what stands behind e, held at farthest
	down   bool   // whether that is below nought
	count  int    // all digits
}

// Read reads decimal text, rounded by the mode.
func Read(s string, mode int) (float64, api.Errno) {
	if mode < api.Even || mode > api.Away {
		return 0, api.ErrArg
	}
	if x, ok := special(s); ok {
		return x, api.OK
	}
	rest, neg := strings.CutPrefix(s, minus)
	d, ok := parted(rest)
	switch {
	case !ok:
		return 0, api.ErrForm
	case d.count > api.MaxDigits:
		return 0, api.ErrLong
	}
	digits := strings.TrimLeft(string(d.body), "0")
	if digits == "" {
		return signed(0, neg), api.OK
	}
	v := standIn(digits, d.ten())
	v.Neg = neg
	return dyad.Round(v, mode)
}

// parted takes a text apart, and tells whether it is of the form; of one with too many digits count alone is right.
func parted(s string) (decimal, bool) {
	var d decimal
	at := atStart
	for _, r := range s {
		at = step(at, r)
		switch at {
		case wrong:
			return decimal{}, false
		case inWhole, inPart, inPower:
			d.take(at, int(r-'0'))
		case atSign:
			d.down = r == '-'
		}
	}
	return d, at == inWhole || at == inPart || at == inPower
}

// step is where a sign leads to.
func step(at int, r rune) int {
	switch {
	case r >= '0' && r <= '9':
		return [...]int{atStart: inWhole, inWhole: inWhole, atPoint: inPart, inPart: inPart, atMark: inPower, atSign: inPower, inPower: inPower}[at]
	case r == '.' && at == inWhole:
		return atPoint
	case r == 'e' && (at == inWhole || at == inPart):
		return atMark
	case (r == '+' || r == '-') && at == atMark:
		return atSign
	}
	return wrong
}

func (d *decimal) take(at, digit int) {
	d.count++
	switch {
	case at == inPower:
		d.power = min(10*d.power+digit, farthest)
		return
	case len(d.body) < api.MaxDigits:
		d.body = append(d.body, '0'+byte(digit))
	}
	if at == inPart {
		d.behind++
	}
}

// ten is the power of ten that the digits, read without a point, count.
func (d *decimal) ten() int {
	if d.down {
		return -d.power - d.behind
	}
	return d.power - d.behind
}

// standIn is a dyad that each mode takes to the same number as the digits (the first one not 0) times ten to the power of ten.
func standIn(digits string, ten int) api.Dyad {
	place := len(digits) + ten
	switch {
	case place > highest:
		digits, ten = "1", highest
	case place < lowest:
		digits, ten = "1", lowest
	}
	n, _ := wide.Parse(digits)
	if ten >= 0 {
		d, _ := dyad.Make(false, times(n, fives(ten)), ten)
		return d
	}
	by := fives(-ten)
	up := max(wide.Len(by)+spareBits-wide.Len(n), 0)
	q, left, _ := wide.Div(shifted(n, up), by)
	// No number and no middle of two lies between q and the one behind it: all that is to be known of what is left is whether it is something.
	q = shifted(q, 1)
	if len(left) > 0 {
		q, _ = wide.Add(q, wide.Of(1))
	}
	d, _ := dyad.Make(false, q, ten-up-1)
	return d
}
