package wide

import (
	"math"
	"math/big"
	"slices"
	"testing"

	"steelyard/api"
)

// P2.1: zero words go, at the end alone.
func TestNorm(t *testing.T) {
	for _, c := range []struct{ n, want api.Nat }{
		{api.Nat{5, 0, 0}, api.Nat{5}}, {api.Nat{0, 0}, nil}, {nil, nil}, {api.Nat{}, nil}, {api.Nat{0}, nil},
		{api.Nat{7, 1}, api.Nat{7, 1}}, {api.Nat{0, 0, 3}, api.Nat{0, 0, 3}}, {api.Nat{0, 3, 0, 0, 0}, api.Nat{0, 3}},
	} {
		if got := Norm(c.n); !slices.Equal(got, c.want) {
			t.Errorf("Norm(%v): %v, want %v", c.n, got, c.want)
		}
	}
	for _, n := range slices.Concat(some(), great(), past()) {
		inForm(t, "Norm", Norm(n), exact(n))
	}
}

// P2.1: Of and Small lead to each other, as far as 64 bits go.
func TestOfAndSmall(t *testing.T) {
	if got := Of(1<<32 + 7); !slices.Equal(got, api.Nat{7, 1}) {
		t.Errorf("Of(2^32 + 7): %v", got)
	}
	for _, x := range []uint64{0, 1, 7, full, full + 1, 1<<32 + 7, 1 << 63, math.MaxUint64 - 1, math.MaxUint64, 7 << 32, 0x123456789ABCDEF0} {
		n := Of(x)
		inForm(t, "Of", n, new(big.Int).SetUint64(x))
		for _, m := range []api.Nat{n, append(Norm(n), 0, 0, 0)} {
			if got, e := Small(m); got != x || e != api.OK {
				t.Errorf("Small(%v): %d, error %d; want %d", m, got, e, x)
			}
		}
	}
	for _, n := range slices.Concat(past(), great(), []api.Nat{{0, 0, 1}, {0, 0, 1, 0}, {full, full, full}}) {
		if got, e := Small(n); got != 0 || e != api.ErrLong {
			t.Errorf("Small of %d words: %d, error %d; want ErrLong", len(n), got, e)
		}
	}
}

// P2.4: all pairs, of unlike forms, long ones too.
func TestCmp(t *testing.T) {
	l := slices.Concat(some(), great(), past())
	for _, a := range l {
		for _, b := range l {
			if got, want := Cmp(a, b), exact(a).Cmp(exact(b)); got != want {
				t.Errorf("Cmp of %d and %d words: %d, want %d", len(a), len(b), got, want)
			}
		}
	}
	for _, c := range []struct {
		a, b api.Nat
		want int
	}{
		{api.Nat{5, 0}, api.Nat{5}, 0}, {nil, api.Nat{0, 0}, 0}, {nil, api.Nat{1}, -1}, {api.Nat{1}, nil, 1},
		{api.Nat{9, 1}, api.Nat{1, 2}, -1}, {api.Nat{1, 2}, api.Nat{9, 1}, 1}, {api.Nat{3, 2}, api.Nat{2, 2}, 1}, {api.Nat{9, 9}, api.Nat{0, 0, 1}, -1},
	} {
		if got := Cmp(c.a, c.b); got != c.want {
			t.Errorf("Cmp(%v, %v): %d, want %d", c.a, c.b, got, c.want)
		}
	}
}

// P2.4: bits, noughts at the low end, single bits.
func TestLenLowBit(t *testing.T) {
	for _, n := range slices.Concat(some(), great(), past()) {
		b := exact(n)
		if got := Len(n); got != b.BitLen() {
			t.Errorf("Len of %d words: %d, want %d", len(n), got, b.BitLen())
		}
		if got := Low(n); got != int(b.TrailingZeroBits()) {
			t.Errorf("Low of %d words: %d, want %d", len(n), got, b.TrailingZeroBits())
		}
		for _, i := range []int{0, 1, 2, 30, 31, 32, 33, 63, 64, 95, 96, 32*most - 1, 32 * most, 32*most + 1} {
			if got := Bit(n, i); got != (b.Bit(i) == 1) {
				t.Errorf("Bit %d of %d words: %v", i, len(n), got)
			}
		}
		for _, i := range []int{-1, -31, -32, -33, math.MinInt, math.MaxInt, 32 * len(n), 32*len(n) + 31} {
			if Bit(n, i) {
				t.Errorf("Bit %d of %d words is a one", i, len(n))
			}
		}
	}
	if Len(api.Nat{0, 1}) != 33 || Len(nil) != 0 || Len(api.Nat{1, 0, 0}) != 1 {
		t.Error("Len of 2^32, of nought, of 1")
	}
	if Low(api.Nat{40}) != 3 || Low(nil) != 0 || Low(api.Nat{0, 0}) != 0 || Low(power(99)) != 99 {
		t.Error("Low of 40, of nought, of 2^99")
	}
	if n := (api.Nat{5}); !Bit(n, 2) || Bit(n, 1) || !Bit(n, 0) || Bit(n, -1) {
		t.Error("Bit of 5")
	}
}
