package root

import (
	"math"
	"math/big"
	"testing"

	"steelyard/api"
)

// nearest fails unless what Even told, as a size's bits, is finite and has what is asked between the middles to its neighbours, or at one, if its last bit is 0.
func nearest(t *testing.T, what string, k kind, a asked, b uint64) {
	t.Helper()
	up := a.stands(k.middle(b))
	down := 1
	if b > 0 {
		down = a.stands(k.middle(b - 1))
	}
	if up > 0 || down < 0 || b%2 == 1 && (up == 0 || down == 0) {
		t.Errorf("%s: what is asked stands to the middles of %x as %d and %d", what, b, down, up)
	}
}

// between fails unless Down is at most Up, and, where they are one number, the value is just that; where not, they are neighbours on either side of it.
func between(t *testing.T, what string, k kind, a asked, down, up uint64) {
	t.Helper()
	in, out := down&^k.sign, up&^k.sign
	if a.neg {
		in, out = out, in
	}
	switch {
	case in == out && a.stands(k.worth(in)) != 0:
		t.Errorf("%s: Down is Up, %x, but the value is not just that", what, down)
	case in != out && (out != in+1 || a.stands(k.worth(in)) <= 0 || out < k.endless && a.stands(k.worth(out)) >= 0):
		t.Errorf("%s: %x and %x do not lie next to the value on either side", what, down, up)
	}
}

// theorem holds P11.5 of one ratio's value, or of its root, in both widths.
func theorem(t *testing.T, r api.Ratio, root bool) {
	t.Helper()
	wide, narrow, what := Quot, Quot32, "Quot of "+told(r)
	if root {
		wide, narrow, what = Root, Root32, "Root of "+told(r)
	}
	a := ask(r, root)
	var told, told32 [5]uint64
	for mode := range 5 {
		x, e := wide(r, mode)
		y, e32 := narrow(r, mode)
		if e != api.OK || e32 != api.OK {
			t.Fatalf("%s: errors %d and %d", what, e, e32)
		}
		told[mode], told32[mode] = math.Float64bits(x), uint64(math.Float32bits(y))
	}
	down, _ := wide(r, api.Down)
	up, _ := wide(r, api.Up)
	down32, _ := narrow(r, api.Down)
	up32, _ := narrow(r, api.Up)
	if down > up || down32 > up32 {
		t.Errorf("%s: Down is above Up", what)
	}
	for i, l := range [2][5]uint64{told, told32} {
		if b := l[api.Even] &^ kinds[i].sign; b < kinds[i].endless {
			nearest(t, what, kinds[i], a, b)
		}
		between(t, what, kinds[i], a, l[api.Down], l[api.Up])
	}
}

// P11.5: over many ratios, of all sizes, and at numbers and middles.
func TestTheorem(t *testing.T) {
	for _, r := range someRatios() {
		theorem(t, r, false)
		if valueOf(r.Num).m.Sign() >= 0 {
			theorem(t, r, true)
		}
	}
	d := dice(120)
	for i := range 2500 {
		r := d.ratio(1+i%5, 20<<(i%6))
		theorem(t, r, false)
		r.Num.Neg = false
		theorem(t, r, true)
		// A number of 54 bits or fewer times what it is divided by, and that times the number again.
		k := new(big.Int).SetUint64(d.roll() >> (d.below(20) + 3) & (1<<54 - 1))
		theorem(t, api.Ratio{Num: api.Dyad{Neg: i%2 == 1, Mag: scaled(r.Den.Mag, k, int64(d.below(2))), Exp: r.Num.Exp}, Den: r.Den}, false)
		theorem(t, api.Ratio{Num: api.Dyad{Mag: scaled(r.Den.Mag, new(big.Int).Mul(k, k), int64(d.below(2))), Exp: r.Den.Exp + 2*(i%50)}, Den: r.Den}, true)
	}
}

// P11.6: Quot of Add of whole numbers by one is their sum, rounded.
func TestSumsOfWholeNumbers(t *testing.T) {
	d := dice(121)
	for i := range 3000 {
		a, b := int64(d.roll()>>(d.below(40))), int64(d.roll()>>(d.below(40)))
		if i%2 == 1 {
			b = -b
		}
		if i%3 == 1 {
			a = -a
		}
		r, e := Add(by(int(a), 1), by(int(b), 1))
		if e != api.OK {
			t.Fatalf("Add of %d and %d: error %d", a, b, e)
		}
		x, e := Quot(r, api.Even)
		answers(t, "a sum", x, e, float64(a+b), api.OK)
		y, e := Quot32(r, api.Even)
		answers32(t, "a sum", y, e, float32(a+b), api.OK)
		sum, _ := dyadOf(value{big.NewInt(a + b), 0})
		want := kinds[0].rounded(ask(over(sum), false))
		for mode := range 5 {
			x, e := Quot(r, mode)
			answers(t, "a sum by a mode", x, e, math.Float64frombits(want[mode]), api.OK)
		}
	}
}

// P11.6: Sub of Add, Div of Mul lead back to one of the same value, by exact products and by Cmp.
func TestWaysBack(t *testing.T) {
	d := dice(122)
	back := func(name string, a, b api.Ratio, there, again func(a, b api.Ratio) (api.Ratio, api.Errno)) {
		t.Helper()
		r, e := there(a, b)
		if e != api.OK {
			t.Fatalf("%s, there: error %d", name, e)
		}
		r, e = again(r, b)
		if e != api.OK {
			t.Fatalf("%s, back: error %d", name, e)
		}
		if c, e := Cmp(r, a); c != 0 || e != api.OK {
			t.Errorf("%s of %s and %s: %s, which is not alike: %d, error %d", name, told(a), told(b), told(r), c, e)
		}
		if stands(product(valueOf(r.Num), valueOf(a.Den)), product(valueOf(a.Num), valueOf(r.Den))) != 0 {
			t.Errorf("%s of %s and %s: %s, which is another value", name, told(a), told(b), told(r))
		}
		x, _ := Quot(a, api.Down)
		y, _ := Quot(r, api.Down)
		answers(t, name+", rounded", y, api.OK, x, api.OK)
	}
	for range 2000 {
		a, b := d.ratio(6, 300), d.ratio(6, 300)
		back("Sub of Add", a, b, Add, Sub)
		back("Add of Sub", a, b, Sub, Add)
		if valueOf(b.Num).m.Sign() != 0 {
			back("Div of Mul", a, b, Mul, Div)
			back("Mul of Div", a, b, Div, Mul)
		}
	}
}
