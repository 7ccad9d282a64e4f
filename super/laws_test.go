package super

import (
	"math"
	"math/big"
	"testing"

	"steelyard/api"
	"steelyard/bits"
)

// deed is one call: a thing is added, or taken.
type deed struct {
	taken, twofold bool
	x, y           float64
}

func (c deed) on(a *Acc) api.Errno {
	switch {
	case c.taken && c.twofold:
		return a.TakeProduct(c.x, c.y)
	case c.taken:
		return a.Take(c.x)
	case c.twofold:
		return a.AddProduct(c.x, c.y)
	}
	return a.Add(c.x)
}

// deeds are so many, half as many of them of things that are taken; of each that is taken one of its sort is added.
func (d *dice) deeds(n int) []deed {
	var l []deed
	for range n {
		c := deed{false, d.below(2) == 0, d.one(), d.one()}
		l = append(l, c)
		if d.below(2) == 0 {
			c.taken = true
			l = append(l, c)
		}
	}
	return l
}

func (d *dice) shuffle(l []deed) {
	for i := range l {
		j := i + d.below(len(l)-i)
		l[i], l[j] = l[j], l[i]
	}
}

// done does all, and puts off those that take what isn't there yet.
func done(t *testing.T, l []deed) *Acc {
	t.Helper()
	a := New()
	for tries := 0; len(l) > 0; tries++ {
		if tries > 100 {
			t.Fatal("what is taken never came")
		}
		var late []deed
		for _, c := range l {
			switch e := c.on(a); e {
			case api.OK:
			case api.ErrNone:
				late = append(late, c)
			default:
				t.Fatalf("error %d", e)
			}
		}
		l = late
	}
	return a
}

func equal(a, b *Acc) bool {
	return alike(a.Exact(), b.Exact()) && a.Specials() == b.Specials()
}

// P7.8: in another order value and Specials are the same.
func TestOrderIsNotSeen(t *testing.T) {
	d := dice(75)
	for n := range 40 {
		l := d.deeds(n)
		first := done(t, l)
		for range 5 {
			d.shuffle(l)
			if !equal(done(t, l), first) {
				t.Errorf("%d things in another order come to something else", len(l))
			}
		}
	}
}

// P7.8: however things are grouped by Merge, value and Specials are the same.
func TestGroupingIsNotSeen(t *testing.T) {
	d := dice(76)
	for n := range 40 {
		var l []deed
		for range n {
			l = append(l, deed{false, d.below(2) == 0, d.one(), d.one()})
		}
		all := done(t, l)
		for range 5 {
			d.shuffle(l)
			groups := []*Acc{New()}
			for _, c := range l {
				if d.below(3) == 0 {
					groups = append(groups, New())
				}
				c.on(groups[d.below(len(groups))])
			}
			if !equal(mergedAll(t, &d, groups), all) {
				t.Errorf("%d things in %d groups come to something else", n, len(groups))
			}
		}
	}
}

// mergedAll merges any two till one is left.
func mergedAll(t *testing.T, d *dice, groups []*Acc) *Acc {
	t.Helper()
	for len(groups) > 1 {
		last := len(groups) - 1
		i := d.below(last)
		want(t, "Merge", groups[i].Merge(groups[last]), api.OK)
		groups = groups[:last]
	}
	return groups[0]
}

// P7.9: what is added and then taken leaves all as it was, also where the value is at its edges.
func TestAddedAndTaken(t *testing.T) {
	d := dice(77)
	starts := []*twin{pairUp(t), several(t), empty(t, 2089, 1), empty(t, 2089, -1), brink(t, 1), brink(t, -1)}
	for _, w := range starts {
		for range 300 {
			c := deed{false, d.below(2) == 0, d.one(), d.one()}
			if c.on(w.a) != api.OK {
				continue
			}
			c.taken = true
			want(t, "what was added is taken", c.on(w.a), api.OK)
			w.alike("added and taken")
		}
	}
}

// P7.10: Down is not above Up; the two are the same, or neighbours; the exact value lies between.
func TestDownAndUp(t *testing.T) {
	d := dice(78)
	pass := api.Policy{NaN: api.Pass, Inf: api.Pass}
	starts := []*twin{pairUp(t), several(t), brink(t, 1), brink(t, -1)}
	for _, start := range starts {
		w := start.copy()
		for range 200 {
			w.step(&d)
			low, e := w.a.Round(api.Down, pass)
			high, f := w.a.Round(api.Up, pass)
			if e != api.OK || f != api.OK || low > high || low != high && bits.Next(low) != high {
				t.Errorf("%v, error %d, and %v, error %d", low, e, high, f)
			}
			v := real(w.m.units)
			if bigger(low, v) || bigger(-high, new(big.Float).Neg(v)) {
				t.Errorf("the value does not lie between %v and %v", low, high)
			}
			if d.below(8) == 0 {
				w = pairUp(t)
			}
		}
	}
}

// bigger tells whether x is above v.
func bigger(x float64, v *big.Float) bool {
	if math.IsInf(x, 0) {
		return x > 0
	}
	return big.NewFloat(x).Cmp(v) > 0
}
