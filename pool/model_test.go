package pool

import (
	"math"
	"math/big"
	"testing"

	"steelyard/api"
	"steelyard/moment"
	"steelyard/sums"
)

// account is what a list comes to, by other means than the layers below: exact fractions.
type account struct {
	nan, up, down       int
	minus, finite       int
	noughts             int
	sum, squares, count *big.Rat
}

func taken(l []float64) account {
	a := account{sum: new(big.Rat), squares: new(big.Rat)}
	for _, x := range l {
		switch {
		case x != x:
			a.nan++
			continue
		case x == inf:
			a.up++
			continue
		case x == -inf:
			a.down++
			continue
		case x == 0:
			a.noughts++
			if math.Signbit(x) {
				a.minus++
			}
		}
		a.finite++
		v := new(big.Rat).SetFloat64(x)
		a.sum.Add(a.sum, v)
		a.squares.Add(a.squares, v.Mul(v, v))
	}
	a.count = new(big.Rat).SetInt64(int64(a.finite))
	return a
}

// ahead is what is told ahead of what the finite ones come to, as chapter 6 says it.
func (a account) ahead(p api.Policy) (told, bool) {
	switch {
	case a.nan > 0 && p.NaN == api.Refuse:
		return not(api.ErrNaN), true
	case a.up+a.down > 0 && p.Inf == api.Refuse:
		return not(api.ErrEndless), true
	case a.nan > 0 && p.NaN == api.Carry:
		return is(hole), true
	case p.Inf != api.Carry || a.up+a.down == 0:
		return told{}, false
	case a.up > 0 && a.down > 0:
		return is(hole), true
	case a.up > 0:
		return is(inf), true
	}
	return is(-inf), true
}

func (a account) total(mode int, p api.Policy) told {
	if x, done := a.ahead(p); done {
		return x
	}
	switch {
	case a.sum.Sign() != 0:
		return is(rounded(a.sum, mode))
	case a.finite == 0:
		return is(0)
	case a.minus == a.finite:
		return is(noughtBelow)
	case a.noughts == a.finite && a.minus == 0:
		return is(0)
	case mode == api.Down:
		return is(noughtBelow)
	}
	return is(0)
}

func (a account) variance(less, mode int, p api.Policy) told {
	if x, done := a.ahead(p); done {
		if x.e == api.OK {
			return is(hole)
		}
		return x
	}
	if a.finite <= less {
		return not(api.ErrNone)
	}
	mean := new(big.Rat).Quo(a.sum, a.count)
	v := new(big.Rat).Sub(a.squares, mean.Mul(mean, a.sum))
	v.Quo(v, new(big.Rat).SetInt64(int64(a.finite-less)))
	if v.Sign() == 0 {
		return is(0)
	}
	return is(rounded(v, mode))
}

// rounded is v, which is not nought, rounded once: to one of the two that lie about it.
func rounded(v *big.Rat, mode int) float64 {
	near, _ := v.Float64()
	near = math.Copysign(near, float64(v.Sign()))
	low, high := near, near
	switch by := stands(near, v); {
	case by == 0 || mode == api.Even:
		return near
	case by > 0:
		low = math.Nextafter(near, -inf)
	default:
		high = math.Nextafter(near, inf)
	}
	in, out := low, high
	if v.Sign() < 0 {
		in, out = math.Copysign(high, -1), low
	}
	switch {
	case mode == api.Up:
		return math.Copysign(high, float64(v.Sign()))
	case mode == api.Down:
		return low
	case mode == api.Zero:
		return in
	case halfway(v, in, out):
		return out
	}
	return near
}

// stands is how a number, of which an infinity is one, stands to v: -1, 0 or 1.
func stands(x float64, v *big.Rat) int {
	if math.IsInf(x, 0) {
		return int(math.Copysign(1, x))
	}
	return new(big.Rat).SetFloat64(x).Cmp(v)
}

// halfway tells whether v lies in the middle between two; behind the greatest number the next one would be 2^1024.
func halfway(v *big.Rat, in, out float64) bool {
	ends := new(big.Rat).SetFloat64(in)
	if math.IsInf(out, 0) {
		behind := new(big.Rat).SetInt(new(big.Int).Lsh(big.NewInt(1), 1024))
		if out < 0 {
			behind.Neg(behind)
		}
		ends.Add(ends, behind)
	} else {
		ends.Add(ends, new(big.Rat).SetFloat64(out))
	}
	return ends.Quo(ends, new(big.Rat).SetInt64(2)).Cmp(v) == 0
}

// way is how a list is cut, by how many, and when.
type way struct {
	size, workers int
	order         []int
}

// comes fails unless Sum, Free and Var answer what Exact and Var of the layers below tell of the whole list, in this way.
func comes(t *testing.T, l []float64, w way, mode int, p api.Policy) {
	t.Helper()
	check := func(what string, got, want told) {
		t.Helper()
		if got != want {
			t.Errorf("%s of %d numbers, %x, in pieces of %d, %d workers, by %d, mode %d, %v: %x; want %x",
				what, len(l), brief(l), w.size, w.workers, brief(w.order), mode, p, got, want)
		}
	}
	want := tell(sums.Exact(l, mode, p))
	check("Sum", tell(Sum(l, w.size, w.workers, w.order, mode, p)), want)
	check("Free", tell(Free(l, w.size, w.workers, mode, p)), want)
	for less := range 2 {
		check("Var", tell(Var(l, w.size, w.workers, less, mode, p)), tell(moment.Var(l, less, mode, p)))
	}
}

// everyWay is comes by all modes and all policies.
func everyWay(t *testing.T, l []float64, w way) {
	t.Helper()
	for mode := range 5 {
		for _, p := range policies() {
			comes(t, l, w, mode, p)
		}
	}
}

// accounts holds Sum, Free and Var against the account of exact fractions, by all modes and all policies.
func accounts(t *testing.T, l []float64, w way) {
	t.Helper()
	a := taken(l)
	for mode := range 5 {
		for _, p := range policies() {
			same(t, "by exact fractions", []told{
				tell(Sum(l, w.size, w.workers, w.order, mode, p)), tell(Free(l, w.size, w.workers, mode, p)),
				tell(Var(l, w.size, w.workers, 0, mode, p)), tell(Var(l, w.size, w.workers, 1, mode, p)),
			}, a.total(mode, p), a.total(mode, p), a.variance(0, mode, p), a.variance(1, mode, p))
		}
	}
}

// way is one that looks like none in particular, for lists of about n numbers.
func (d *dice) way(n int) way {
	size := 1 + d.below(n+2)
	if d.below(8) == 0 {
		size = 1 + d.below(longest)
	}
	workers := 1 + d.below(6)
	if d.below(8) == 0 {
		workers = 1 + d.below(most)
	}
	return way{size, workers, d.order(d.below(2 * (n/size + 2)))}
}
