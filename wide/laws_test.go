package wide

import (
	"slices"
	"testing"

	"steelyard/api"
)

// told is an answer that must not be refused.
func told(t *testing.T) func(n api.Nat, e api.Errno) api.Nat {
	return func(n api.Nat, e api.Errno) api.Nat {
		t.Helper()
		if e != api.OK {
			t.Errorf("error %d", e)
		}
		return n
	}
}

func alike(t *testing.T, what string, a, b api.Nat) {
	t.Helper()
	if !slices.Equal(a, b) {
		t.Errorf("%s: %v and %v", what, a, b)
	}
}

// threes are rows of three Nats, small and great.
func threes() [][3]api.Nat {
	var l [][3]api.Nat
	d := dice(7)
	for i := range 1500 {
		l = append(l, [3]api.Nat{d.nat(d.below(1 + i%12)), d.nat(d.below(7)), d.nat(d.below(7))})
	}
	return append(l, [3]api.Nat{d.nat(most / 3), d.nat(most / 3), d.nat(most/3 - 1)})
}

// P2.7: no order, no brackets, one over the other.
func TestLawsOfSumsAndProducts(t *testing.T) {
	n := told(t)
	for _, l := range threes() {
		a, b, c := l[0], l[1], l[2]
		alike(t, "a + b, b + a", n(Add(a, b)), n(Add(b, a)))
		alike(t, "a b, b a", n(Mul(a, b)), n(Mul(b, a)))
		alike(t, "(a + b) + c, a + (b + c)", n(Add(n(Add(a, b)), c)), n(Add(a, n(Add(b, c)))))
		alike(t, "(a b) c, a (b c)", n(Mul(n(Mul(a, b)), c)), n(Mul(a, n(Mul(b, c)))))
		alike(t, "a (b + c), a b + a c", n(Mul(a, n(Add(b, c)))), n(Add(n(Mul(a, b)), n(Mul(a, c)))))
		alike(t, "a + b less b", n(Sub(n(Add(a, b)), b)), Norm(a))
	}
}

// P2.7: quotients, roots, shifts, texts lead back.
func TestLawsOfWaysBack(t *testing.T) {
	n := told(t)
	for _, l := range threes() {
		a, b := l[0], l[1]
		if Len(b) > 0 {
			q, r, e := Div(a, b)
			alike(t, "q b + r, a", n(Add(n(Mul(q, b)), r)), Norm(a))
			if e != api.OK || Cmp(r, b) >= 0 {
				t.Errorf("error %d, or %v is not below %v", e, r, b)
			}
		}
		root, left := Root(a)
		alike(t, "root^2 + left, n", n(Add(n(Mul(root, root)), left)), Norm(a))
		if Cmp(left, n(Add(root, root))) > 0 {
			t.Errorf("%v is above twice %v", left, root)
		}
		for _, by := range []int{0, 1, 31, 32, 33, 700} {
			alike(t, "up and back", n(Shift(n(Shift(a, by)), -by)), Norm(a))
		}
		text := Text(a)
		back := n(Parse(text))
		alike(t, "Parse of Text", back, Norm(a))
		if Text(back) != text {
			t.Errorf("Text of Parse: %s, was %s", Text(back), text)
		}
	}
}
