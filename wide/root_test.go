package wide

import (
	"math/big"
	"slices"
	"testing"

	"steelyard/api"
)

// rooted fails unless Root tells the whole root and what is left.
func rooted(t *testing.T, n api.Nat) {
	t.Helper()
	root, left := Root(n)
	want := new(big.Int).Sqrt(exact(n))
	inForm(t, "root", root, want)
	inForm(t, "left", left, new(big.Int).Sub(exact(n), new(big.Int).Mul(want, want)))
}

// P2.4: the chapter's rows.
func TestRootExamples(t *testing.T) {
	for _, c := range []struct{ n, root, left string }{
		{"99", "9", "18"}, {"0", "0", "0"}, {"18446744073709551616", "4294967296", "0"}, {"1", "1", "0"}, {"3", "1", "2"}, {"4", "2", "0"},
	} {
		n, _ := Parse(c.n)
		root, left := Root(n)
		inForm(t, "root of "+c.n, root, whole(c.root))
		inForm(t, "left of "+c.n, left, whole(c.left))
	}
}

// P2.4: small ones one by one, and those of other layers' tests.
func TestRoot(t *testing.T) {
	for i := range uint64(5000) {
		rooted(t, Of(i))
	}
	for _, n := range slices.Concat(some(), great()) {
		rooted(t, n)
	}
	for i := range 400 {
		rooted(t, power(i))
		rooted(t, ones(i))
	}
}

// P2.4: squares and what lies beside them.
func TestRootBesideSquares(t *testing.T) {
	d := dice(4)
	for i := range 4000 {
		n := Norm(d.nat(1 + i%12))
		square, _ := Mul(n, n)
		rooted(t, square)
		more, _ := Add(square, api.Nat{1})
		rooted(t, more)
		if len(n) == 0 {
			continue
		}
		less, _ := Sub(square, api.Nat{1})
		rooted(t, less)
		more, _ = Add(square, n)
		more, _ = Add(more, n)
		rooted(t, more)
	}
	half := ones(16 * most)
	square, _ := Mul(half, half)
	rooted(t, square)
	less, _ := Sub(square, api.Nat{1})
	rooted(t, less)
}

// P2.4: long ones, and long ones that are squares.
func TestRootLong(t *testing.T) {
	for _, n := range past() {
		rooted(t, n)
	}
	rooted(t, power(64*most))
	rooted(t, ones(64*most))
}
