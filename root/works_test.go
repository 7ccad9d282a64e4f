package root

import (
	"math/big"
	"testing"

	"steelyard/api"
)

// added is what P3.3 says of two forms, by exact values.
func added(a, b api.Dyad) (api.Dyad, api.Errno) {
	switch {
	case len(a.Mag) == 0:
		return b, api.OK
	case len(b.Mag) == 0:
		return a, api.OK
	}
	v, w := valueOf(a), valueOf(b)
	exp := min(v.exp, w.exp)
	if v.m.BitLen()+v.exp-exp > limit || w.m.BitLen()+w.exp-exp > limit {
		return api.Dyad{}, api.ErrLong
	}
	return dyadOf(value{new(big.Int).Add(level(v, exp), level(w, exp)), exp})
}

// times2 is what P3.4 says of two forms, by exact values.
func times2(a, b api.Dyad) (api.Dyad, api.Errno) { return dyadOf(product(valueOf(a), valueOf(b))) }

// turned is a form with the other sign.
func turned(a api.Dyad) api.Dyad {
	if len(a.Mag) == 0 {
		return a
	}
	return less(a)
}

// steps are worked one behind the other, till one is refused; what stands behind it is nought.
type steps struct{ e api.Errno }

func (s *steps) do(call func(a, b api.Dyad) (api.Dyad, api.Errno), a, b api.Dyad) api.Dyad {
	if s.e != api.OK {
		return api.Dyad{}
	}
	d, e := call(a, b)
	s.e = e
	return d
}

func (s *steps) told(num, den api.Dyad) (api.Ratio, api.Errno) {
	if s.e != api.OK {
		return api.Ratio{}, s.e
	}
	return api.Ratio{Num: num, Den: den}, api.OK
}

// worked is what P11.2 says of a call by its name.
func worked(name string, a, b api.Ratio) (api.Ratio, api.Errno) {
	if e := amiss(a, b); e != api.OK {
		return api.Ratio{}, e
	}
	p, _ := formed(a.Num)
	q, _ := formed(a.Den)
	s, _ := formed(b.Num)
	t, _ := formed(b.Den)
	var w steps
	switch name {
	case "Add", "Sub":
		pt, sq := w.do(times2, p, t), w.do(times2, s, q)
		if name == "Sub" {
			sq = turned(sq)
		}
		return w.told(w.do(added, pt, sq), w.do(times2, q, t))
	case "Mul":
		return w.told(w.do(times2, p, s), w.do(times2, q, t))
	}
	if len(s.Mag) == 0 {
		return api.Ratio{}, api.ErrNought
	}
	pt, qs := w.do(times2, p, t), w.do(times2, q, s)
	if s.Neg {
		pt, qs = turned(pt), turned(qs)
	}
	return w.told(pt, qs)
}

type work struct {
	name string
	call func(a, b api.Ratio) (api.Ratio, api.Errno)
}

func works() []work { return []work{{"Add", Add}, {"Sub", Sub}, {"Mul", Mul}, {"Div", Div}} }

// worksAs holds all four calls against exact values.
func worksAs(t *testing.T, a, b api.Ratio) {
	t.Helper()
	for _, w := range works() {
		got, e := w.call(a, b)
		want, wantE := worked(w.name, a, b)
		makes(t, w.name+" of "+told(a)+" and "+told(b), got, e, want, wantE)
	}
}

// P11.2: small ones, each with each and with itself, of every sign, in their form and not, and others.
func TestWorks(t *testing.T) {
	l := someRatios()
	for i, a := range l {
		worksAs(t, a, a)
		for j := i % 7; j < len(l); j += 7 {
			worksAs(t, a, l[j])
		}
	}
	d := dice(115)
	for range 3000 {
		worksAs(t, d.ratio(5, 150), d.ratio(5, 150))
	}
}

// By hand: just these Nums and Dens, with nothing cut out of both.
func TestWorksByHand(t *testing.T) {
	for _, c := range []struct {
		name string
		a, b api.Ratio
		is   [4]api.Ratio // of Add, Sub, Mul, Div
	}{
		{"2 / 4 and 3 / 6", by(2, 4), by(3, 6), [4]api.Ratio{by(24, 24), by(0, 24), by(6, 24), by(12, 12)}},
		{"-3 / 5 and 7 / 9", by(-3, 5), by(7, 9), [4]api.Ratio{by(8, 45), by(-62, 45), by(-21, 45), by(-27, 35)}},
		{"3 / 5 and -7 / 9", by(3, 5), by(-7, 9), [4]api.Ratio{by(-8, 45), by(62, 45), by(-21, 45), by(-27, 35)}},
		{"-3 / 5 and -7 / 9", by(-3, 5), by(-7, 9), [4]api.Ratio{by(-62, 45), by(8, 45), by(21, 45), by(27, 35)}},
		{"0 / 5 and -7 / 9", by(0, 5), by(-7, 9), [4]api.Ratio{by(-35, 45), by(35, 45), by(0, 45), by(0, 35)}},
		{"6 / 2 and 6 / 2", by(6, 2), by(6, 2), [4]api.Ratio{by(24, 4), by(0, 4), by(36, 4), by(12, 12)}},
		{"no forms", api.Ratio{Num: dy(true, -1, 12, 0), Den: dy(false, -2, 8, 0)}, api.Ratio{Num: dy(false, -3, 0, 1), Den: dy(false, 0, 6)}, [4]api.Ratio{by(2*536870912-36, 12), by(-36-2*536870912, 12), by(-6*536870912, 12), by(-36, 2*536870912)}},
	} {
		for i, w := range works() {
			got, e := w.call(c.a, c.b)
			makes(t, w.name+" of "+c.name, got, e, c.is[i], api.OK)
		}
	}
}

// P11.2: what chapter 3 refuses of products and sums, each of them for itself, and what it just does not.
func TestWorksRefuseLong(t *testing.T) {
	half, third := 524288, 349526
	num := func(exp int) api.Ratio { return over(two(exp)) }
	den := func(n, exp int) api.Ratio { return api.Ratio{Num: in(n), Den: two(exp)} }
	both := func(n, d int) api.Ratio { return api.Ratio{Num: two(n), Den: two(d)} }
	words := func(bits int) api.Ratio { return over(api.Dyad{Mag: ones(bits)}) }
	yes, no := api.OK, api.ErrLong
	for _, c := range []struct {
		name string
		a, b api.Ratio
		is   [4]api.Errno
	}{
		{"p t alone, of Exps", num(half), den(1, half+1), [4]api.Errno{no, no, yes, no}},
		{"p t, just not", api.Ratio{Num: two(half), Den: two(0)}, api.Ratio{Num: in(0), Den: two(half)}, [4]api.Errno{yes, yes, yes, api.ErrNought}},
		{"s q alone, of Exps", den(0, half+1), num(half), [4]api.Errno{no, no, yes, no}},
		{"s q, just not", den(0, half), num(half), [4]api.Errno{yes, yes, yes, yes}},
		{"q t alone", den(0, half+1), den(0, half), [4]api.Errno{no, no, no, api.ErrNought}},
		{"q t, just not", den(0, half), den(0, half), [4]api.Errno{yes, yes, yes, api.ErrNought}},
		{"q t below", den(0, -half-1), den(0, -half), [4]api.Errno{no, no, no, api.ErrNought}},
		{"q t below, though p and s are above", both(half, -half), both(half+1, -half-1), [4]api.Errno{no, no, no, yes}},
		{"p s alone", num(half), num(half + 1), [4]api.Errno{yes, yes, no, yes}},
		{"p s, just not", num(half), num(half), [4]api.Errno{yes, yes, yes, yes}},
		{"a sum alone, of what lies far apart", num(third), num(0), [4]api.Errno{no, no, yes, yes}},
		{"a sum, just not", num(limit - 1), num(0), [4]api.Errno{yes, yes, yes, yes}},
		{"a sum, just", num(limit), num(0), [4]api.Errno{no, no, yes, yes}},
		{"a sum alone, of a word too many", words(limit), by(2, 1), [4]api.Errno{no, yes, yes, yes}},
		{"a difference alone", words(limit), by(-2, 1), [4]api.Errno{yes, no, yes, yes}},
		{"words of p s and p t", words(limit), by(3, 3), [4]api.Errno{no, no, no, no}},
		{"words of p s", words(limit), by(3, 1), [4]api.Errno{yes, yes, no, yes}},
		{"words of p t", words(limit), by(1, 3), [4]api.Errno{no, no, yes, no}},
		{"MaxExp once more", num(api.MaxExp), num(api.MaxExp), [4]api.Errno{no, yes, no, yes}},
		{"MaxExp once more, turned", num(api.MaxExp), over(less(two(api.MaxExp))), [4]api.Errno{yes, no, no, yes}},
	} {
		for i, w := range works() {
			if _, e := w.call(c.a, c.b); e != c.is[i] {
				t.Errorf("%s, %s: error %d; want %d", w.name, c.name, e, c.is[i])
			}
		}
		worksAs(t, c.a, c.b)
		worksAs(t, c.b, c.a)
		worksAs(t, api.Ratio{Num: less(c.a.Num), Den: c.a.Den}, c.b)
		worksAs(t, c.a, api.Ratio{Num: less(c.b.Num), Den: c.b.Den})
	}
}

// P11.2: ratios of great ones with a few, on either side.
func TestWorksOfGreatOnes(t *testing.T) {
	few := []api.Ratio{by(0, 1), by(1, 1), by(-1, 3), over(two(api.MaxExp)), {Num: less(two(-api.MaxExp)), Den: two(api.MaxExp)}}
	l := great()
	for i, n := range l {
		for j := i % 3; j < len(l); j += 3 {
			a := api.Ratio{Num: api.Dyad{Neg: (i+j)%2 == 1, Mag: n.Mag, Exp: n.Exp}, Den: l[j]}
			for _, b := range few {
				worksAs(t, a, b)
				worksAs(t, b, a)
			}
		}
	}
}
