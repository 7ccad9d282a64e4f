package wide

import (
	"math/bits"

	"steelyard/api"
)

// Add is a + b.
func Add(a, b api.Nat) (api.Nat, api.Errno) {
	// A sum is no shorter than what it is made of: to ask it alone is enough.
	return unlessLong(add(trim(a), trim(b)))
}

// Sub is a - b, unless b is the greater one.
func Sub(a, b api.Nat) (api.Nat, api.Errno) {
	a, b = trim(a), trim(b)
	switch {
	case long(a) || long(b):
		return nil, api.ErrLong
	case Cmp(a, b) < 0:
		return nil, api.ErrLess
	}
	return sub(a, b), api.OK
}

// Mul is a times b.
func Mul(a, b api.Nat) (api.Nat, api.Errno) {
	a, b = trim(a), trim(b)
	switch {
	case long(a) || long(b):
		return nil, api.ErrLong
	case len(a) == 0 || len(b) == 0:
		return nil, api.OK
	case len(a)+len(b)-1 > api.MaxWords:
		// A product has at least so many words: the work can be spared.
		return nil, api.ErrLong
	}
	return unlessLong(mul(a, b))
}

// Shift is n times two to the power of by, rounded down.
func Shift(n api.Nat, by int) (api.Nat, api.Errno) {
	n = trim(n)
	size := Len(n)
	// By is held against sizes ahead of being worked with: the ends of int have no room for that.
	switch {
	case long(n):
		return nil, api.ErrLong
	case size == 0 || by <= -size:
		return nil, api.OK
	case by < 0:
		return down(n, -by), api.OK
	case by > wordBits*api.MaxWords-size:
		return nil, api.ErrLong
	}
	return up(n, by), api.OK
}

// add, and what stands below it, takes Nats in their form, of any length, and answers new ones in their form.
func add(a, b api.Nat) api.Nat {
	if len(a) < len(b) {
		a, b = b, a
	}
	s := make(api.Nat, len(a)+1)
	copy(s, a)
	s[len(a)] = addTo(s[:len(a)], b)
	return trim(s)
}

// addTo adds b to n in place, which has no fewer words, and answers what is carried out of n.
func addTo(n, b api.Nat) uint32 {
	carry := uint32(0)
	for i, w := range b {
		n[i], carry = bits.Add32(n[i], w, carry)
	}
	for i := len(b); i < len(n) && carry > 0; i++ {
		n[i], carry = bits.Add32(n[i], 0, carry)
	}
	return carry
}

// sub is a - b, a being no less than b.
func sub(a, b api.Nat) api.Nat {
	d := make(api.Nat, len(a))
	copy(d, a)
	borrow := uint32(0)
	for i, w := range b {
		d[i], borrow = bits.Sub32(d[i], w, borrow)
	}
	for i := len(b); borrow > 0; i++ {
		d[i], borrow = bits.Sub32(d[i], 0, borrow)
	}
	return trim(d)
}

func mul(a, b api.Nat) api.Nat {
	p := make(api.Nat, len(a)+len(b))
	for i, w := range a {
		p[i+len(b)] = addTimes(p[i:i+len(b)], b, w)
	}
	return trim(p)
}

// addTimes adds b times by to n in place, which has as many words, and answers what is carried out of n.
func addTimes(n, b api.Nat, by uint32) uint32 {
	carry := uint64(0)
	for i, w := range b {
		t := uint64(w)*uint64(by) + uint64(n[i]) + carry
		n[i], carry = uint32(t), t>>wordBits
	}
	return uint32(carry)
}

// up is n times two to the power of by, which is not below nought.
func up(n api.Nat, by int) api.Nat {
	words, rest := by/wordBits, by%wordBits
	m := make(api.Nat, words+len(n)+1)
	for i, w := range n {
		t := uint64(w) << rest
		m[words+i] |= uint32(t)
		m[words+i+1] = uint32(t >> wordBits)
	}
	return trim(m)
}

// down is n by two to the power of by, which is not below nought, rounded down.
func down(n api.Nat, by int) api.Nat {
	words, rest := by/wordBits, by%wordBits
	if words >= len(n) {
		return nil
	}
	m := make(api.Nat, len(n)-words)
	copy(m, n[words:])
	for i := range m {
		t := uint64(m[i])
		if i+1 < len(m) {
			t |= uint64(m[i+1]) << wordBits
		}
		m[i] = uint32(t >> rest)
	}
	return trim(m)
}
