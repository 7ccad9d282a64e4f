package wide

import (
	"math"
	"math/big"
	"slices"
	"testing"

	"steelyard/api"
)

// P2.2: sums, differences, products of all pairs.
func TestAddSubMul(t *testing.T) {
	for _, a := range some() {
		for _, b := range some() {
			x, y := exact(a), exact(b)
			n, e := Add(a, b)
			answers(t, "Add", n, e, new(big.Int).Add(x, y), api.OK)
			n, e = Mul(a, b)
			answers(t, "Mul", n, e, new(big.Int).Mul(x, y), api.OK)
			n, e = Sub(a, b)
			less := api.OK
			if x.Cmp(y) < 0 {
				less = api.ErrLess
			}
			answers(t, "Sub", n, e, new(big.Int).Sub(x, y), less)
		}
	}
}

// P2.2: carries go through full words, and borrows through empty ones.
func TestCarries(t *testing.T) {
	for i := range 9 {
		n, e := Add(ones(32*i), api.Nat{1})
		answers(t, "Add of full words and 1", n, e, exact(power(32*i)), api.OK)
		n, e = Add(api.Nat{1, 0}, ones(32*i))
		answers(t, "Add of 1 and full words", n, e, exact(power(32*i)), api.OK)
		n, e = Sub(power(32*i), api.Nat{1})
		answers(t, "Sub of 1 from empty words", n, e, exact(ones(32*i)), api.OK)
		n, e = Mul(ones(32*i), ones(64))
		answers(t, "Mul of full words", n, e, new(big.Int).Mul(exact(ones(32*i)), exact(ones(64))), api.OK)
	}
}

// P2.2: the chapter's rows.
func TestArithExamples(t *testing.T) {
	n, e := Add(api.Nat{full}, api.Nat{1})
	if !slices.Equal(n, api.Nat{0, 1}) || e != api.OK {
		t.Errorf("Add(4294967295, 1): %v, %d", n, e)
	}
	n, e = Sub(power(64), api.Nat{1})
	if !slices.Equal(n, api.Nat{full, full}) || e != api.OK {
		t.Errorf("Sub(2^64, 1): %v, %d", n, e)
	}
	n, e = Sub(api.Nat{3}, api.Nat{4})
	answers(t, "Sub(3, 4)", n, e, nil, api.ErrLess)
	n, e = Mul(ones(33), ones(33))
	answers(t, "Mul(2^33 - 1, 2^33 - 1)", n, e, whole("73786976277658337281"), api.OK)
}

// P2.2: what is long is refused, ahead of ErrLess too; zero words at the end make nothing long.
func TestLongArguments(t *testing.T) {
	calls := []struct {
		name string
		call func(a, b api.Nat) (api.Nat, api.Errno)
	}{{"Add", Add}, {"Sub", Sub}, {"Mul", Mul}}
	for _, c := range calls {
		for _, n := range past() {
			for _, m := range slices.Concat(past(), []api.Nat{nil, {0}, {1}, ones(32 * most)}) {
				got, e := c.call(n, m)
				answers(t, c.name+" of a long a", got, e, nil, api.ErrLong)
				got, e = c.call(m, n)
				answers(t, c.name+" of a long b", got, e, nil, api.ErrLong)
			}
		}
	}
	padded := append(api.Nat{6}, make(api.Nat, most+5)...)
	for _, c := range calls {
		n, e := c.call(padded, api.Nat{2, 0})
		answers(t, c.name+"(6 0 0 .., 2 0)", n, e, big.NewInt(map[string]int64{"Add": 8, "Sub": 4, "Mul": 12}[c.name]), api.OK)
	}
}

// P2.2: an answer of MaxWords words is told, one word more is ErrLong.
func TestLongAnswers(t *testing.T) {
	top := ones(32 * most)
	n, e := Add(top, nil)
	answers(t, "Add(2^262144 - 1, 0)", n, e, exact(top), api.OK)
	n, e = Add(top, api.Nat{1})
	answers(t, "Add(2^262144 - 1, 1)", n, e, nil, api.ErrLong)
	n, e = Add(top, top)
	answers(t, "Add(2^262144 - 1, 2^262144 - 1)", n, e, nil, api.ErrLong)
	n, e = Sub(top, top)
	answers(t, "Sub(2^262144 - 1, 2^262144 - 1)", n, e, new(big.Int), api.OK)
	n, e = Mul(top, nil)
	answers(t, "Mul(2^262144 - 1, 0)", n, e, new(big.Int), api.OK)
	n, e = Mul(top, top)
	answers(t, "Mul(2^262144 - 1, 2^262144 - 1)", n, e, nil, api.ErrLong)
	for _, c := range []struct{ a, b api.Nat }{
		{top, api.Nat{1}}, {top, api.Nat{2}}, {power(32*most - 1), api.Nat{1}}, {power(32*most - 1), api.Nat{2}},
		{power(16 * most), power(16*most - 1)}, {power(16 * most), power(16 * most)}, {ones(16 * most), ones(16 * most)},
		{ones(16 * most), ones(16*most + 1)}, {ones(16*most + 1), ones(16*most + 1)}, {ones(32*most - 40), ones(40)}, {ones(32*most - 40), ones(41)},
		{power(16 * most), power(16*most + 31)},
	} {
		want := new(big.Int).Mul(exact(c.a), exact(c.b))
		n, e := Mul(c.a, c.b)
		answers(t, "Mul at the limit", n, e, want, tooLong(want))
		n, e = Mul(c.b, c.a)
		answers(t, "Mul at the limit", n, e, want, tooLong(want))
	}
}

// P2.3: near and far, up and down.
func TestShift(t *testing.T) {
	bys := []int{0, 1, 2, 15, 30, 31, 32, 33, 63, 64, 65, 95, 96, 97, 128, 257, 300, 5000}
	for _, n := range some() {
		for _, by := range bys {
			got, e := Shift(n, by)
			answers(t, "Shift up", got, e, new(big.Int).Lsh(exact(n), uint(by)), api.OK)
			got, e = Shift(n, -by)
			answers(t, "Shift down", got, e, new(big.Int).Rsh(exact(n), uint(by)), api.OK)
		}
	}
	for _, n := range great() {
		for _, by := range append(bys, 32*most-1, 32*most, 32*most+1) {
			got, e := Shift(n, -by)
			answers(t, "Shift of a great one down", got, e, new(big.Int).Rsh(exact(n), uint(by)), api.OK)
		}
	}
}

// P2.3: the limit, and places that no int can be worked with beyond.
func TestShiftFar(t *testing.T) {
	for _, c := range []struct {
		n    api.Nat
		by   int
		want *big.Int
		e    api.Errno
	}{
		{api.Nat{5}, 33, whole("42949672960"), api.OK}, {api.Nat{5}, -1, big.NewInt(2), api.OK}, {api.Nat{5}, -99, new(big.Int), api.OK},
		{api.Nat{5}, -2, big.NewInt(1), api.OK}, {api.Nat{5}, -3, new(big.Int), api.OK},
		{nil, 1 << 62, new(big.Int), api.OK}, {api.Nat{0, 0}, math.MaxInt, new(big.Int), api.OK}, {nil, math.MinInt, new(big.Int), api.OK},
		{api.Nat{1}, 262144, nil, api.ErrLong}, {api.Nat{1}, 262143, exact(power(262143)), api.OK}, {api.Nat{1, 0, 0}, 262143, exact(power(262143)), api.OK},
		{api.Nat{2}, 262142, exact(power(262143)), api.OK}, {api.Nat{2}, 262143, nil, api.ErrLong}, {api.Nat{3}, 262143, nil, api.ErrLong},
		{api.Nat{1}, math.MaxInt, nil, api.ErrLong}, {ones(32 * most), math.MaxInt, nil, api.ErrLong}, {ones(32 * most), 1, nil, api.ErrLong},
		{ones(32 * most), 0, exact(ones(32 * most)), api.OK}, {ones(32*most - 1), 1, exact(append(api.Nat{full - 1}, ones(32*(most-1))...)), api.OK},
		{api.Nat{1}, math.MinInt, new(big.Int), api.OK}, {ones(32 * most), math.MinInt, new(big.Int), api.OK}, {ones(32 * most), math.MinInt + 1, new(big.Int), api.OK},
	} {
		n, e := Shift(c.n, c.by)
		answers(t, "Shift", n, e, c.want, c.e)
	}
	n, _ := Shift(api.Nat{5}, 33)
	if !slices.Equal(n, api.Nat{0, 10}) {
		t.Errorf("Shift(5, 33): %v", n)
	}
	for _, n := range past() {
		for _, by := range []int{0, 1, -1, -32, -64, -32 * most, math.MinInt, math.MaxInt} {
			got, e := Shift(n, by)
			answers(t, "Shift of a long one", got, e, nil, api.ErrLong)
		}
	}
}
