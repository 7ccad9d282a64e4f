package text

import (
	"math"
	"strconv"
	"strings"
	"testing"

	"steelyard/api"
	"steelyard/bits"
)

// randomText is of the form, of few digits ahead of the point and behind it, anywhere from below the least to above the greatest.
func randomText(d *dice) string {
	s := d.digits(1 + d.below(20))
	if d.below(2) == 0 {
		s += "." + d.digits(1+d.below(20))
	}
	if d.below(4) > 0 {
		s += "e" + strconv.Itoa(d.below(720)-370)
	}
	if d.below(2) == 0 {
		s = "-" + s
	}
	return s
}

// P4.7: Down's answer is not above Up's, they are the same or neighbours, the other modes answer one of the two.
func TestModesKeepTogether(t *testing.T) {
	d := dice(47)
	texts := []string{"0", "-0", "1", "inf", "-inf", "1e400", "-1e400", "1e-400", "-1e-400", "1.7976931348623158e308", "-1.7976931348623158e308", "3e-324"}
	for range 4000 {
		texts = append(texts, randomText(&d))
	}
	for _, s := range texts {
		var x [5]float64
		for mode := range x {
			var e api.Errno
			if x[mode], e = Read(s, mode); e != api.OK {
				t.Errorf("Read(%s, %d): error %d", s, mode, e)
			}
		}
		down, up := x[api.Down], x[api.Up]
		if down > up || down != up && bits.Next(down) != up {
			t.Errorf("%s is read as %x by Down, %x by Up", s, down, up)
		}
		for _, mode := range []int{api.Even, api.Zero, api.Away} {
			if hex(x[mode]) != hex(down) && hex(x[mode]) != hex(up) {
				t.Errorf("%s is read as %x by %d, by Down and Up as %x and %x", s, x[mode], mode, down, up)
			}
		}
	}
}

// alike fails unless both are read as the same number, by every mode.
func alike(t *testing.T, s, other string) {
	t.Helper()
	for mode := api.Even; mode <= api.Away; mode++ {
		x, e := Read(s, mode)
		y, e2 := Read(other, mode)
		if e != api.OK || e2 != api.OK || hex(x) != hex(y) {
			t.Errorf("%s and %s by %d: %x and %x, errors %d and %d", brief(s), brief(other), mode, x, y, e, e2)
		}
	}
}

// moved is digits, of which the first whole ones stand ahead of the point, times ten to the power of p.
func moved(digits string, whole, p int) string {
	if whole <= 0 {
		digits, whole = strings.Repeat("0", 1-whole)+digits, 1
	}
	digits += strings.Repeat("0", max(whole-len(digits), 0))
	s := digits[:whole]
	if whole < len(digits) {
		s += "." + digits[whole:]
	}
	return s + "e" + strconv.Itoa(p)
}

// P4.8: noughts ahead, noughts behind the point, and a power of ten moved to and fro change nothing.
func TestNoughtsAndPowersMove(t *testing.T) {
	d := dice(53)
	for range 300 {
		digits, whole, p := d.digits(1+d.below(30)), d.below(30), d.below(700)-360
		s := moved(digits, whole, p)
		for _, sign := range []string{"", "-"} {
			alike(t, sign+s, sign+strings.Repeat("0", 1+d.below(900))+s)
			alike(t, sign+s, sign+moved(digits+strings.Repeat("0", 1+d.below(900)), whole, p))
			for _, by := range []int{1, -1, 7, -25, 300, -300, d.below(900) - 450} {
				alike(t, sign+s, sign+moved(digits, whole+by, p-by))
			}
		}
	}
}

// P4.8: Read takes every text of Short and Exact, by every mode; those of Exact have at most MaxDigits digits.
func TestReadTakesWhatIsTold(t *testing.T) {
	for _, x := range append(numbers(300), 0, math.Inf(1), math.NaN()) {
		for _, y := range []float64{x, math.Copysign(x, -1)} {
			for mode := api.Even; mode <= api.Away; mode++ {
				for _, s := range []string{Short(y), Exact(y)} {
					if _, e := Read(s, mode); e != api.OK {
						t.Errorf("Read(%s, %d): error %d", brief(s), mode, e)
					}
				}
			}
		}
	}
}

// P4.6 of a NaN: there and back it is the one that is answered.
func TestNaNThereAndBack(t *testing.T) {
	for _, x := range odds() {
		if y, e := Unhex(Hex(x)); hex(y) != answered || e != api.OK {
			t.Errorf("Unhex(Hex(%x)): %x, error %d", hex(x), hex(y), e)
		}
	}
}
