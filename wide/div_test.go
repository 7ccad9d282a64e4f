package wide

import (
	"math/big"
	"slices"
	"testing"

	"steelyard/api"
)

// divided fails unless Div tells the quotient and what is left.
func divided(t *testing.T, a, b api.Nat) {
	t.Helper()
	q, r, e := Div(a, b)
	wantQ, wantR := new(big.Int).QuoRem(exact(a), exact(b), new(big.Int))
	answers(t, "q of Div", q, e, wantQ, api.OK)
	answers(t, "r of Div", r, e, wantR, api.OK)
}

// refused fails unless Div tells that error, and nothing beside it.
func refused(t *testing.T, a, b api.Nat, want api.Errno) {
	t.Helper()
	q, r, e := Div(a, b)
	answers(t, "q of a refused Div", q, e, nil, want)
	answers(t, "r of a refused Div", r, e, nil, want)
}

// P2.2: all pairs; nought divides nothing.
func TestDiv(t *testing.T) {
	for _, a := range some() {
		for _, b := range some() {
			if exact(b).Sign() == 0 {
				refused(t, a, b, api.ErrNought)
			} else {
				divided(t, a, b)
			}
		}
	}
}

// P2.2: the chapter's rows.
func TestDivExamples(t *testing.T) {
	for _, c := range []struct{ a, b, q, r string }{
		{"100000000000000000000", "7", "14285714285714285714", "2"}, {"6", "7", "0", "6"}, {"7", "7", "1", "0"}, {"0", "7", "0", "0"},
	} {
		a, _ := Parse(c.a)
		b, _ := Parse(c.b)
		q, r, e := Div(a, b)
		answers(t, c.a+" by "+c.b, q, e, whole(c.q), api.OK)
		answers(t, c.a+" by "+c.b+" leaves", r, e, whole(c.r), api.OK)
	}
	refused(t, api.Nat{5}, nil, api.ErrNought)
	refused(t, api.Nat{5}, api.Nat{0, 0}, api.ErrNought)
	refused(t, nil, nil, api.ErrNought)
}

// P2.2: quotients of which the highest words tell too much, by one and by two, and beyond a word.
func TestDivGuesses(t *testing.T) {
	for _, c := range []struct{ a, b api.Nat }{
		{api.Nat{0, 0, 0, 1 << 31}, api.Nat{1, 0, 1 << 31}},
		{api.Nat{0, 0, 1 << 31, 1<<31 - 1}, api.Nat{1, 0, 1 << 31}},
		{api.Nat{3, 0, 1 << 31}, api.Nat{1, 0, 1 << 29}},
		{api.Nat{0, full - 1, 1 << 31}, api.Nat{full, 1 << 31}},
		{api.Nat{0, 0, 1 << 31}, api.Nat{full, 1 << 31}},
		{api.Nat{0, full, full, 1 << 31}, api.Nat{full, full, 1 << 31}},
		{api.Nat{0, 0, 0x90000000, 1 << 31}, api.Nat{0, full, 1 << 31}},
		{ones(128), ones(64)}, {ones(128), power(64)}, {power(128), ones(64)}, {power(128), power(64)},
		{ones(127), ones(33)}, {api.Nat{0, 1, 1 << 31}, api.Nat{1, 1 << 31}},
	} {
		divided(t, c.a, c.b)
	}
	d := dice(3)
	for range 30000 {
		b := d.nat(1 + d.below(5))
		if exact(b).Sign() > 0 {
			divided(t, d.nat(d.below(10)), b)
		}
	}
}

// P2.2: what lies at and beside a product.
func TestDivBesideProducts(t *testing.T) {
	d := dice(33)
	for range 3000 {
		q, b := Norm(d.nat(1+d.below(4))), Norm(d.nat(1+d.below(4)))
		if len(q) == 0 || len(b) == 0 {
			continue
		}
		p, _ := Mul(q, b)
		divided(t, p, b)
		p, _ = Sub(p, api.Nat{1})
		divided(t, p, b)
	}
}

// P2.2: MaxWords words on either side; one more is refused, ahead of ErrNought.
func TestDivLong(t *testing.T) {
	half := great()[3][:most/2]
	half[most/2-1] |= 9
	for _, a := range great() {
		for _, b := range slices.Concat(great(), []api.Nat{{1}, {3}, {full}, {full, full}, {0, 1}, half, ones(16 * most), ones(32*most - 31)}) {
			divided(t, a, b)
			divided(t, b, a)
		}
		refused(t, a, nil, api.ErrNought)
	}
	for _, n := range past() {
		refused(t, n, nil, api.ErrLong)
		refused(t, n, api.Nat{0}, api.ErrLong)
		refused(t, n, api.Nat{1}, api.ErrLong)
		refused(t, n, n, api.ErrLong)
		refused(t, api.Nat{1}, n, api.ErrLong)
		refused(t, nil, n, api.ErrLong)
	}
	padded := make(api.Nat, most+9)
	padded[0] = 20
	divided(t, padded, append(api.Nat{6}, make(api.Nat, most)...))
}
