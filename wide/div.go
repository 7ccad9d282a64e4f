package wide

import (
	"math"
	"math/bits"

	"steelyard/api"
)

// Div is a by b, and what is left.
func Div(a, b api.Nat) (q, r api.Nat, e api.Errno) {
	a, b = trim(a), trim(b)
	switch {
	case long(a) || long(b):
		return nil, nil, api.ErrLong
	case len(b) == 0:
		return nil, nil, api.ErrNought
	}
	q, r = div(a, b)
	return q, r, api.OK
}

// div takes Nats in their form, of any length, b above nought, and answers new ones in their form.
func div(a, b api.Nat) (q, r api.Nat) {
	switch {
	case len(a) < len(b):
		return nil, Norm(a)
	case len(b) == 1:
		q = Norm(a)
		left := cut(q, b[0])
		return trim(q), Of(uint64(left))
	}
	// Guesses are good only by a divisor whose highest bit is a one.
	by := bits.LeadingZeros32(b[len(b)-1])
	v := up(b, by)
	u := make(api.Nat, len(a)+1)
	copy(u, up(a, by))
	q = make(api.Nat, len(a)-len(b)+1)
	for i := len(q) - 1; i >= 0; i-- {
		q[i] = takeOut(u[i:i+len(v)+1], v)
	}
	return trim(q), down(trim(u), by)
}

// cut divides n by a word in place, and answers what is left.
func cut(n api.Nat, by uint32) uint32 {
	left := uint64(0)
	for i := len(n) - 1; i >= 0; i-- {
		t := left<<wordBits | uint64(n[i])
		n[i], left = uint32(t/uint64(by)), t%uint64(by)
	}
	return uint32(left)
}

// takeOut takes v out of u in place as often as it goes, and answers how often. U has a word more than v, and is below v times 2^32.
func takeOut(u, v api.Nat) uint32 {
	often := guess(u, v)
	if takeTimes(u, v, often) {
		// The guess was one too great, and u went below nought round its end: adding brings it back.
		often--
		addTo(u, v)
	}
	return often
}

// guess is how often v goes into u by the highest words alone, or one more.
func guess(u, v api.Nat) uint32 {
	n := len(v)
	top := uint64(v[n-1])
	t := uint64(u[n])<<wordBits | uint64(u[n-1])
	often, left := t/top, t%top
	for often > math.MaxUint32 || often*uint64(v[n-2]) > left<<wordBits|uint64(u[n-2]) {
		often--
		left += top
		if left > math.MaxUint32 {
			break
		}
	}
	return uint32(often)
}

// takeTimes takes v times by off u in place, which has a word more, and tells whether u was less.
func takeTimes(u, v api.Nat, by uint32) bool {
	carry, borrow := uint64(0), uint32(0)
	for i, w := range v {
		t := uint64(w)*uint64(by) + carry
		u[i], borrow = bits.Sub32(u[i], uint32(t), borrow)
		carry = t >> wordBits
	}
	u[len(v)], borrow = bits.Sub32(u[len(v)], uint32(carry), borrow)
	return borrow > 0
}
