package super

import (
	"math"
	"math/big"
	"testing"

	"steelyard/api"
)

// P7.1: New has the value nought, and no Specials; each New is another one.
func TestNew(t *testing.T) {
	a, b := New(), New()
	if a == nil || b == nil || a == b {
		t.Fatal("New answers nil, or one twice")
	}
	has(t, "New", a, blank())
	a.Add(3)
	has(t, "another New", b, blank())
	has(t, "a later New", New(), blank())
}

// A number is of the sort that it is: one more of All, and of its sort, or of the value.
func TestAddSorts(t *testing.T) {
	for _, c := range []struct {
		x     float64
		s     api.Specials
		exact api.Dyad
	}{
		{hole, api.Specials{NaN: 1, All: 1}, api.Dyad{}},
		{inf, api.Specials{Up: 1, All: 1}, api.Dyad{}},
		{-inf, api.Specials{Down: 1, All: 1}, api.Dyad{}},
		{noughtBelow, api.Specials{Minus: 1, All: 1}, api.Dyad{}},
		{0, api.Specials{Plus: 1, All: 1}, api.Dyad{}},
		{least, api.Specials{All: 1}, api.Dyad{Mag: api.Nat{1}, Exp: -1074}},
		{-least, api.Specials{All: 1}, api.Dyad{Neg: true, Mag: api.Nat{1}, Exp: -1074}},
		{-6, api.Specials{All: 1}, api.Dyad{Neg: true, Mag: api.Nat{3}, Exp: 1}},
		{normal - least, api.Specials{All: 1}, api.Dyad{Mag: api.Nat{1<<32 - 1, 1<<20 - 1}, Exp: -1074}},
		{greatest, api.Specials{All: 1}, api.Dyad{Mag: api.Nat{1<<32 - 1, 1<<21 - 1}, Exp: 971}},
	} {
		a := New()
		want(t, "Add", a.Add(c.x), api.OK)
		if a.Specials() != c.s || !alike(a.Exact(), c.exact) {
			t.Errorf("Add(%v): %+v, %+v; want %+v, %+v", c.x, a.Specials(), a.Exact(), c.s, c.exact)
		}
	}
}

// P7.2, P7.3: each number at the edges, added to what is there, and taken from it; NaN's bits are not looked at.
func TestAddAndTakeEdges(t *testing.T) {
	w := pairUp(t)
	for _, x := range edges() {
		want(t, "Add", w.add(x), api.OK)
		want(t, "Add", w.add(x), api.OK)
		want(t, "Take", w.take(x), api.OK)
	}
	for _, x := range edges() {
		want(t, "Take", w.take(x), api.OK)
		want(t, "Take of what isn't there", pairUp(t).take(x), api.ErrNone)
	}
	has(t, "all taken", w.a, blank())
}

// A product's sort by the sorts of both, and its sign by their sign bits.
func TestProductSorts(t *testing.T) {
	type row struct {
		x, y float64
		word string
	}
	var rows []row
	for _, x := range edges() {
		rows = append(rows, row{x, hole, "NaN"})
	}
	for _, x := range []float64{least, normal, 1, greatest, inf} {
		rows = append(rows, row{x, inf, "+Inf"}, row{-x, inf, "-Inf"}, row{x, -inf, "-Inf"}, row{-x, -inf, "+Inf"})
	}
	for _, x := range []float64{least, normal, 1, greatest} {
		rows = append(rows, row{x, 0, "0"}, row{-x, 0, "-0"}, row{x, noughtBelow, "-0"}, row{-x, noughtBelow, "0"})
	}
	for _, x := range []float64{inf, -inf} {
		rows = append(rows, row{x, 0, "NaN"}, row{x, noughtBelow, "NaN"})
	}
	rows = append(rows, row{0, 0, "0"}, row{0, noughtBelow, "-0"}, row{noughtBelow, noughtBelow, "0"})
	for _, r := range rows {
		for _, p := range [][2]float64{{r.x, r.y}, {r.y, r.x}} {
			a, m := New(), blank()
			want(t, "AddProduct", a.AddProduct(p[0], p[1]), api.OK)
			m.add(item{r.word, nil})
			has(t, "AddProduct", a, m)
		}
	}
}

// P7.2, P7.3: products of each two of the edges, added, then taken; and taken where there is none of their sort.
func TestProductEdges(t *testing.T) {
	all := New()
	m := blank()
	for _, x := range edges() {
		for _, y := range edges() {
			w := pairUp(t)
			want(t, "TakeProduct of none", w.takeProduct(x, y), api.ErrNone)
			want(t, "AddProduct", w.addProduct(x, y), api.OK)
			want(t, "TakeProduct", w.takeProduct(x, y), api.OK)
			has(t, "added and taken", w.a, blank())
			all.AddProduct(x, y)
			m.add(couple(x, y))
		}
	}
	has(t, "all products", all, m)
}

// The least and the greatest product, by hand.
func TestFarthestProducts(t *testing.T) {
	a := New()
	a.AddProduct(least, least)
	if d := a.Exact(); !alike(d, api.Dyad{Mag: api.Nat{1}, Exp: -2148}) {
		t.Errorf("the least: %+v", d)
	}
	a.TakeProduct(-least, least)
	if d := a.Exact(); !alike(d, api.Dyad{Mag: api.Nat{1}, Exp: -2147}) {
		t.Errorf("the least, twice: %+v", d)
	}
	b := New()
	b.AddProduct(-greatest, greatest)
	// (2^53 - 1)^2 is 2^106 - 2^54 + 1.
	if d := b.Exact(); !alike(d, api.Dyad{Neg: true, Mag: api.Nat{1, 1<<32 - 1<<22, 1<<32 - 1, 1<<10 - 1}, Exp: 1942}) {
		t.Errorf("the greatest: %x %d", d.Mag, d.Exp)
	}
}

// P7.3: of each sort there must be one; what others there are is not asked. Nothing changes by what is refused.
func TestNoneOfItsSort(t *testing.T) {
	sorts := []float64{hole, inf, -inf, noughtBelow, 0, 1.5}
	for i, x := range sorts {
		w := pairUp(t)
		for j, y := range sorts {
			if i != j {
				w.add(y)
				w.add(y)
			}
		}
		want(t, "Take", w.take(x), api.ErrNone)
		want(t, "TakeProduct", w.takeProduct(x, 2), api.ErrNone)
		want(t, "TakeProduct", w.takeProduct(-2, -x), api.ErrNone)
		want(t, "Add", w.add(x), api.OK)
		want(t, "Take", w.take(x), api.OK)
		want(t, "Take", w.take(x), api.ErrNone)
	}
}

// P7.3: whether just this number was added is not asked; a product may be taken for a number.
func TestTakeAnother(t *testing.T) {
	w := pairUp(t)
	want(t, "Add", w.add(3), api.OK)
	want(t, "Take", w.take(-1e300), api.OK)
	want(t, "Take", w.take(-1e300), api.ErrNone)
	want(t, "Add", w.add(math.Float64frombits(answered|1)), api.OK)
	want(t, "TakeProduct", w.takeProduct(0, inf), api.OK)
	want(t, "AddProduct", w.addProduct(-3, 0), api.OK)
	want(t, "Take", w.take(0), api.ErrNone)
	want(t, "Take", w.take(noughtBelow), api.OK)
	want(t, "AddProduct", w.addProduct(1e200, 1e200), api.OK)
	want(t, "Take", w.take(1), api.OK)
	if w.m.s != (api.Specials{}) {
		t.Errorf("%+v left", w.m.s)
	}
}

// P7.2: at MaxCount none is added, whatever its sort; one that is taken makes room for one.
func TestFull(t *testing.T) {
	for _, x := range []float64{hole, inf, -inf, noughtBelow, 0, 1.5, -least} {
		w := pairUp(t)
		w.add(x)
		w.doubled(40)
		if w.m.s.All != most {
			t.Fatalf("All is %d", w.m.s.All)
		}
		for _, y := range edges() {
			want(t, "Add to what is full", w.add(y), api.ErrLong)
			want(t, "AddProduct to what is full", w.addProduct(y, -1), api.ErrLong)
		}
		want(t, "Take", w.take(x), api.OK)
		want(t, "AddProduct", w.addProduct(x, 1), api.OK)
		want(t, "Add", w.add(x), api.ErrLong)
	}
}

// P7.2, P7.3: what makes the value 2^2090, or less that, or passes it, is refused, by adding and by taking, and leaves all as it was.
func TestBounds(t *testing.T) {
	for _, sign := range []float64{1, -1} {
		w := brink(t, sign)
		for _, x := range []float64{least, normal, 1, greatest} {
			want(t, "Add", w.add(sign*x), api.ErrLong)
			want(t, "Take", w.take(-sign*x), api.ErrLong)
			for _, y := range []float64{least, 1, greatest} {
				want(t, "AddProduct", w.addProduct(sign*x, y), api.ErrLong)
				want(t, "TakeProduct", w.takeProduct(x, -sign*y), api.ErrLong)
			}
		}
		for _, x := range []float64{hole, inf, -inf, noughtBelow, 0} {
			want(t, "Add of what isn't plain", w.add(x), api.OK)
			want(t, "Take of what isn't plain", w.take(x), api.OK)
		}
		want(t, "one unit back", w.addProduct(least, -sign*least), api.OK)
		want(t, "and on", w.addProduct(-least, -sign*least), api.OK)
		want(t, "and on", w.addProduct(-least, -sign*least), api.ErrLong)
		want(t, "one unit back", w.takeProduct(least, sign*least), api.OK)
		want(t, "two units on", w.addProduct(least, sign*2*least), api.ErrLong)
		want(t, "one unit on", w.takeProduct(-least, sign*least), api.OK)
		want(t, "far back", w.addProduct(greatest, -sign*greatest), api.OK)
		want(t, "and on", w.addProduct(greatest, sign*greatest), api.OK)
	}
}

// P7.3: ErrNone goes ahead of ErrLong.
func TestNoneAheadOfLong(t *testing.T) {
	for _, sign := range []float64{1, -1} {
		w := brink(t, sign)
		want(t, "Take", w.take(sign), api.OK)
		want(t, "TakeProduct", w.takeProduct(greatest, -sign*greatest), api.ErrNone)
		want(t, "Add", w.add(sign), api.OK)
		want(t, "TakeProduct", w.takeProduct(greatest, -sign*greatest), api.ErrLong)
	}
}

// The bounds hold on either side of every word's end: powers of two and their neighbours, added up and taken away again.
func TestPlaces(t *testing.T) {
	for place := -2148; place <= 2046; place++ {
		x := math.Ldexp(1, max(place/2, -1074))
		y := math.Ldexp(1, place-max(place/2, -1074))
		w := pairUp(t)
		w.addProduct(x, y)
		w.addProduct(-least, least)
		w.addProduct(-least, least)
		w.takeProduct(2*x, y/2)
		w.takeProduct(greatest, greatest)
		if w.m.units.Sign() >= 0 {
			t.Fatalf("2^%d: the value is %x", place, w.m.units)
		}
	}
}

// Many steps of all sorts, from nought and from either brink, to which they go back each time.
func TestManySteps(t *testing.T) {
	d := dice(71)
	times := map[api.Errno]int{}
	for _, start := range []*twin{pairUp(t), brink(t, 1), brink(t, -1)} {
		for range 100 {
			w := start.copy()
			for range 60 {
				times[w.step(&d)]++
			}
		}
	}
	for _, e := range []api.Errno{api.OK, api.ErrLong, api.ErrNone} {
		if times[e] < 200 {
			t.Errorf("error %d only %d times", e, times[e])
		}
	}
}

// The oracle's own units: 2^-2148 each.
func TestUnits(t *testing.T) {
	if couple(least, -least).units.Cmp(big.NewInt(-1)) != 0 || single(1).units.Cmp(power(0)) != 0 {
		t.Error("the model counts other units")
	}
}
