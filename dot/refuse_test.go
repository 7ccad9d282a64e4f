package dot

import (
	"testing"

	"steelyard/api"
)

// sizes are lengths of two lists, with what is refused of them by P12.1 and P12.3.
func sizes() []struct {
	a, b int
	e    api.Errno
} {
	return []struct {
		a, b int
		e    api.Errno
	}{
		{0, 0, api.OK}, {1, 1, api.OK}, {3, 3, api.OK}, {longest, longest, api.OK},
		{0, 1, api.ErrLength}, {1, 0, api.ErrLength}, {2, 3, api.ErrLength}, {3, 2, api.ErrLength}, {longest, 0, api.ErrLength}, {longest - 1, longest, api.ErrLength},
		{longest + 1, 0, api.ErrLong}, {0, longest + 1, api.ErrLong}, {longest + 1, longest, api.ErrLong}, {longest, longest + 1, api.ErrLong}, {longest + 1, longest + 1, api.ErrLong},
	}
}

// special is n numbers of which the first are a NaN and two infinities, so that each policy has something to refuse.
func special(n int) []float64 {
	l := often(n, 1)
	copy(l, []float64{hole, inf, -inf})
	return l
}

// P12.1: a mode that is none, a policy that may not be, a list that is too long, lists of unlike lengths, a NaN, an infinity: the first of these is told.
func TestDotRefusesInOrder(t *testing.T) {
	strict := api.Policy{NaN: api.Refuse, Inf: api.Refuse}
	for _, s := range sizes() {
		a, b := special(s.a), special(s.b)
		for _, mode := range noModes() {
			for _, p := range append(strangers(), strict, api.Policy{}) {
				x, e := Dot(a, b, mode, p)
				refuses(t, "a mode that is none", x, e, api.ErrArg)
			}
		}
		for mode := range 5 {
			for _, p := range strangers() {
				x, e := Dot(a, b, mode, p)
				refuses(t, "a policy that may not be", x, e, api.ErrArg)
			}
			if s.e != api.OK {
				x, e := Dot(a, b, mode, strict)
				refuses(t, "lists that are too long, or unlike", x, e, s.e)
				x, e = Dot(a, b, mode, api.Policy{})
				refuses(t, "lists that are too long, or unlike", x, e, s.e)
			}
		}
	}
}

// P12.1: a NaN that is refused is told ahead of an infinity that is, wherever they stand; an infinity that is refused ahead of a NaN that is carried.
func TestDotRefusesByPolicy(t *testing.T) {
	strict := api.Policy{NaN: api.Refuse, Inf: api.Refuse}
	for mode := range 5 {
		for _, c := range []struct {
			name   string
			a, b   []float64
			strict api.Errno // by {Refuse, Refuse}
			noNaN  api.Errno // by {Refuse, Carry}
			noInf  api.Errno // by {Carry, Refuse}
		}{
			{"an infinity ahead of a NaN", nums(inf, hole, 1), nums(1, 1, 1), api.ErrNaN, api.ErrNaN, api.ErrEndless},
			{"a NaN ahead of an infinity", nums(1, hole, 2), nums(1, 1, -inf), api.ErrNaN, api.ErrNaN, api.ErrEndless},
			{"a NaN of a nought times an infinity", nums(0, 1), nums(-inf, 1), api.ErrNaN, api.ErrNaN, api.OK},
			{"a NaN times an infinity", nums(hole), nums(inf), api.ErrNaN, api.ErrNaN, api.OK},
			{"a NaN times a nought", nums(noughtBelow), nums(hole), api.ErrNaN, api.ErrNaN, api.OK},
			{"infinities of two signs", nums(inf, inf), nums(1, -1), api.ErrEndless, api.OK, api.ErrEndless},
			{"an infinity times an infinity", nums(-inf), nums(inf), api.ErrEndless, api.OK, api.ErrEndless},
			{"a product beyond all numbers", nums(greatest), nums(greatest), api.OK, api.OK, api.OK},
			{"noughts", nums(0, noughtBelow), nums(1, 1), api.OK, api.OK, api.OK},
		} {
			for p, want := range map[api.Policy]api.Errno{strict: c.strict, {NaN: api.Refuse}: c.noNaN, {Inf: api.Refuse}: c.noInf} {
				x, e := Dot(c.a, c.b, mode, p)
				if e != want || e != api.OK && !sameBits(x, 0) {
					t.Errorf("%s, mode %d, %+v: %x, error %d; want %d", c.name, mode, p, x, e, want)
				}
			}
		}
	}
}

// P12.2: a mode that is none ahead of a list that is too long; nothing else is refused.
func TestNormRefusesInOrder(t *testing.T) {
	for _, n := range []int{0, 1, 5, longest, longest + 1, 2 * longest} {
		a := special(n)
		for _, mode := range noModes() {
			x, e := Norm(a, mode)
			refuses(t, "a mode that is none", x, e, api.ErrArg)
		}
		for mode := range 5 {
			x, e := Norm(a, mode)
			switch {
			case n > longest:
				refuses(t, "a list that is too long", x, e, api.ErrLong)
			case n == 0:
				answers(t, "none", x, e, 0, api.OK)
			default:
				answers(t, "a NaN is no fault", x, e, hole, api.OK)
			}
		}
	}
}

// P12.3: a mode that is none, a list that is too long, lists of unlike lengths: the first of these is told.
func TestDistanceRefusesInOrder(t *testing.T) {
	for _, s := range sizes() {
		a, b := special(s.a), special(s.b)
		for _, mode := range noModes() {
			x, e := Distance(a, b, mode)
			refuses(t, "a mode that is none", x, e, api.ErrArg)
		}
		for mode := range 5 {
			x, e := Distance(a, b, mode)
			switch {
			case s.e != api.OK:
				refuses(t, "lists that are too long, or unlike", x, e, s.e)
			case s.a == 0:
				answers(t, "none", x, e, 0, api.OK)
			default:
				answers(t, "a NaN is no fault", x, e, hole, api.OK)
			}
		}
	}
}

// P12.4: a mode that is none, a list that is too long, a number that is not finite: the first of these is told.
func TestPolyRefusesInOrder(t *testing.T) {
	strange := append(odds(), inf, -inf)
	for _, n := range []int{0, 1, 2, highest, highest + 1, 2 * highest, longest + 1} {
		for _, x := range append(strange, 2, 0, greatest) {
			c := often(n, 1)
			if n > 0 {
				c[n/2] = strange[n%len(strange)]
			}
			for _, mode := range noModes() {
				y, e := Poly(c, x, mode)
				refuses(t, "a mode that is none", y, e, api.ErrArg)
			}
			for mode := range 5 {
				y, e := Poly(c, x, mode)
				switch {
				case n > highest:
					refuses(t, "a list that is too long", y, e, api.ErrLong)
				case n > 0 || x-x != 0:
					refuses(t, "a number that is not finite", y, e, api.ErrOdd)
				default:
					answers(t, "none", y, e, 0, api.OK)
				}
			}
		}
	}
}

// P12.4: one number that is not finite is refused at each place, also where it would be multiplied by nought; and x, also where it is not needed.
func TestPolyRefusesWhatIsNotFinite(t *testing.T) {
	for _, odd := range append(odds(), inf, -inf) {
		for mode := range 5 {
			for n := range highest {
				c := often(highest, 0)
				c[n] = odd
				for _, x := range []float64{0, noughtBelow, 1, least, greatest} {
					y, e := Poly(c, x, mode)
					refuses(t, "one of c", y, e, api.ErrOdd)
				}
			}
			for _, c := range [][]float64{nil, {}, {0}, {5}, {0, 0, 0}, {1, 2, 3}, often(highest, 1)} {
				y, e := Poly(c, odd, mode)
				refuses(t, "x", y, e, api.ErrOdd)
			}
		}
	}
}
