package dot

import (
	"slices"
	"testing"

	"steelyard/api"
)

// dotAs fails unless Dot answers by every mode and every policy as P12.1 says.
func dotAs(t *testing.T, a, b []float64) {
	t.Helper()
	d := dotOf(a, b)
	for mode := range 5 {
		for _, p := range policies() {
			x, e := Dot(a, b, mode, p)
			if is, want := d.right(mode, p); !sameBits(x, is) || e != want {
				t.Errorf("Dot of %d numbers, %x .. and %x .., mode %d, %+v: %x, error %d; want %x, error %d", len(a), brief(a), brief(b), mode, p, x, e, is, want)
			}
		}
	}
}

// P12.1: by hand, by each mode.
func TestDotByHand(t *testing.T) {
	up, down := [5]float64{inf, greatest, inf, greatest, inf}, [5]float64{-inf, -greatest, -greatest, -inf, -inf}
	for _, c := range []struct {
		name string
		a, b []float64
		is   [5]float64
	}{
		{"none", nil, nil, [5]float64{}},
		{"none, not nil", nums(), nums(), [5]float64{}},
		{"+0", nums(0), nums(5), [5]float64{}},
		{"-0", nums(0), nums(-5), [5]float64{noughtBelow, noughtBelow, noughtBelow, noughtBelow, noughtBelow}},
		{"-0 of -0 and +0", nums(noughtBelow), nums(0), [5]float64{noughtBelow, noughtBelow, noughtBelow, noughtBelow, noughtBelow}},
		{"+0 of -0 and -0", nums(noughtBelow), nums(noughtBelow), [5]float64{}},
		{"noughts of two signs", nums(0, 0), nums(1, -1), [5]float64{0, 0, 0, noughtBelow, 0}},
		{"what cancels", nums(3, -0.5), nums(0.5, 3), [5]float64{0, 0, 0, noughtBelow, 0}},
		{"what cancels, and -0", nums(3, -0.5, 0), nums(0.5, 3, -1), [5]float64{0, 0, 0, noughtBelow, 0}},
		{"beyond", nums(greatest), nums(2), up},
		{"beyond, less", nums(greatest), nums(-2), down},
		{"the middle above the greatest", nums(greatest, 0x1p970), nums(1, 1), up},
		{"just below that middle", nums(greatest, 0x1p970, -least), nums(1, 1, least), [5]float64{greatest, greatest, inf, greatest, greatest}},
		{"below the least", nums(least), nums(least), [5]float64{0, 0, least, 0, 0}},
		{"below the least, less", nums(least), nums(-least), [5]float64{noughtBelow, noughtBelow, noughtBelow, -least, noughtBelow}},
		{"half the least", nums(least), nums(0.5), [5]float64{0, 0, least, 0, least}},
		{"a middle", nums(1, 1), nums(1, 0x1p-53), [5]float64{1, 1, 1 + 0x1p-52, 1, 1 + 0x1p-52}},
		{"just above a middle", nums(1, 1, least), nums(1, 0x1p-53, least), [5]float64{1 + 0x1p-52, 1, 1 + 0x1p-52, 1, 1 + 0x1p-52}},
		{"just below a middle", nums(1, 1, least), nums(1, 0x1p-53, -least), [5]float64{1, 1, 1 + 0x1p-52, 1, 1}},
		{"products that are rounded would cancel", nums(1+0x1p-52, -1), nums(1-0x1p-53, 1), [5]float64{0x1.ffffffffffffep-54, 0x1.ffffffffffffep-54, 0x1.ffffffffffffep-54, 0x1.ffffffffffffep-54, 0x1.ffffffffffffep-54}},
		{"the greatest squared, less itself, and the least squared", nums(greatest, greatest, least), nums(greatest, -greatest, least), [5]float64{0, 0, least, 0, 0}},
	} {
		for mode, is := range c.is {
			x, e := Dot(c.a, c.b, mode, api.Policy{})
			answers(t, c.name, x, e, is, api.OK)
		}
		dotAs(t, c.a, c.b)
	}
}

// P12.1: by each policy, by hand: infinities, a NaN that is one, and one that a nought and an infinity make.
func TestDotOfSpecials(t *testing.T) {
	for _, c := range []struct {
		name                string
		a, b                []float64
		carried, passed     float64 // by {Carry, Carry}, {Pass, Pass}
		passedNaN, carryNaN float64 // by {Pass, Carry}, {Carry, Pass}
	}{
		{"a NaN", nums(hole, 2), nums(5, 3), hole, 6, 6, hole},
		{"a NaN alone", nums(1), nums(hole), hole, 0, 0, hole},
		{"a NaN, and -0", nums(1, 0), nums(hole, -1), hole, noughtBelow, noughtBelow, hole},
		{"an infinity", nums(inf, 2), nums(5, 3), inf, 6, inf, 6},
		{"an infinity, turned", nums(inf, 2), nums(-5, 3), -inf, 6, -inf, 6},
		{"infinities of one sign", nums(inf, -inf), nums(1, -1), inf, 0, inf, 0},
		{"infinities of two signs", nums(inf, inf, 7), nums(1, -1, 1), hole, 7, hole, 7},
		{"an infinity times an infinity", nums(-inf, 1), nums(inf, 1), -inf, 1, -inf, 1},
		{"a nought times an infinity", nums(0, 4), nums(inf, 1), hole, 4, 4, hole},
		{"an infinity times a nought, and an infinity", nums(-inf, -inf), nums(noughtBelow, 1), hole, 0, -inf, hole},
		{"beyond is no infinity", nums(greatest, greatest, 1), nums(greatest, -greatest, 1), 1, 1, 1, 1},
	} {
		for mode := range 5 {
			if mode == api.Down && c.passed == 0 {
				continue
			}
			for p, is := range map[api.Policy]float64{{}: c.carried, {NaN: api.Pass, Inf: api.Pass}: c.passed, {NaN: api.Pass}: c.passedNaN, {Inf: api.Pass}: c.carryNaN} {
				x, e := Dot(c.a, c.b, mode, p)
				answers(t, c.name, x, e, is, api.OK)
			}
		}
		dotAs(t, c.a, c.b)
	}
}

// P12.1: a NaN of whatever bits is the one that is answered, wherever it stands.
func TestDotOfNaN(t *testing.T) {
	for _, odd := range odds() {
		for _, other := range []float64{0, noughtBelow, 1, -inf, odd, greatest} {
			for _, c := range [][2][]float64{{nums(odd, 1), nums(other, 1)}, {nums(1, other), nums(2, odd)}} {
				x, e := Dot(c[0], c[1], api.Down, api.Policy{})
				answers(t, "carried", x, e, hole, api.OK)
				dotAs(t, c[0], c[1])
			}
		}
	}
}

// P12.1: numbers of every kind: one place with each two of them, two places with all fours of some.
func TestDotOfEveryKind(t *testing.T) {
	row := append(edges(), inf, -inf, hole)
	for _, x := range row {
		for _, y := range row {
			dotAs(t, nums(x), nums(y))
		}
	}
	eachList(4, few()[:10], func(l []float64) { dotAs(t, l[:2], l[2:]) })
}

// P12.1: lists of many lengths, of like sizes and of all, whose products cancel, or nearly.
func TestDotOfMany(t *testing.T) {
	d := dice(121)
	for n := range 120 {
		dotAs(t, d.list(n, d.near()), d.list(n, d.near()))
		dotAs(t, d.list(n, d.finite), d.list(n, d.finite))
		dotAs(t, d.list(n%7, d.any), d.list(n%7, d.any))
		a, b := d.list(n, d.finite), d.list(n, d.finite)
		for i := range n {
			a, b = append(a, b[i]), append(b, turned(a[i]))
		}
		dotAs(t, a, b)
		a, b = d.shuffled(append(a, d.finite()), append(b, least))
		dotAs(t, a, b)
	}
}

// P12.1: lists of MaxList numbers are taken, whatever they come to.
func TestDotOfLongLists(t *testing.T) {
	d := dice(122)
	half := slices.Concat(often(longest/2, greatest), often(longest/2, -greatest))
	for _, c := range []struct {
		name string
		a, b []float64
		mode int
		is   float64
	}{
		{"2^16 of the greatest's square, Even", often(longest, greatest), often(longest, greatest), api.Even, inf},
		{"2^16 of the greatest's square, Down", often(longest, greatest), often(longest, greatest), api.Down, greatest},
		{"as many less", often(longest, greatest), often(longest, -greatest), api.Up, -greatest},
		{"half of them of either sign", half, often(longest, greatest), api.Down, noughtBelow},
		{"2^16 of the least's square", often(longest, least), often(longest, least), api.Up, least},
		{"2^16 of 2^-1090", often(longest, 0x1p-590), often(longest, 0x1p-500), api.Zero, least},
		{"noughts", often(longest, 0), often(longest, -1), api.Up, noughtBelow},
	} {
		x, e := Dot(c.a, c.b, c.mode, api.Policy{})
		answers(t, c.name, x, e, c.is, api.OK)
	}
	near := d.near()
	dotAs(t, d.list(longest, near), d.list(longest, near))
}
