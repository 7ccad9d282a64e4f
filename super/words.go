package super

import (
	"slices"

	"steelyard/api"
)

const (
	wordBits = 32
	lowest   = -2148 // the power of two of the lowest bit: the least small number times itself
	bound    = 2090  // the power of two that the value stays below, on either side
	within   = bound - lowest
	count    = within/wordBits + 1
	top      = count - 1
	over     = within % wordBits // how many bits of the highest word the value may have
)

// words are the value, in units of two to the power of lowest, the lowest word first. Below nought it is what lacks to the power of two behind the last word, so that sums need no look at signs; the highest word has room for the sign, and for what two values come to.
type words [count]uint32

// with is the value with a thing's more.
func (w words) with(t thing) words {
	for i, n := range t.size {
		if t.neg {
			w.take(n, t.place+wordBits*i)
		} else {
			w.add(n, t.place+wordBits*i)
		}
	}
	return w
}

// add puts a word in at a bit's place, and carries on as long as there is something to carry.
func (w *words) add(n uint32, place int) {
	carry := uint64(n) << (place % wordBits)
	for i := place / wordBits; i < count && carry > 0; i++ {
		carry += uint64(w[i])
		w[i] = uint32(carry)
		carry >>= wordBits
	}
}

// take is the other way round: what lacks in one word is borrowed from the next.
func (w *words) take(n uint32, place int) {
	lack := uint64(n) << (place % wordBits)
	for i := place / wordBits; i < count && lack > 0; i++ {
		low := uint32(lack)
		lack >>= wordBits
		if low > w[i] {
			lack++
		}
		w[i] -= low
	}
}

// merged is what both come to.
func (w words) merged(other *words) words {
	carry := uint64(0)
	for i, n := range other {
		carry += uint64(w[i]) + uint64(n)
		w[i] = uint32(carry)
		carry >>= wordBits
	}
	return w
}

func (w *words) below() bool { return int32(w[top]) < 0 }

// beyond tells whether the value is at a bound or past it.
func (w *words) beyond() bool {
	switch int32(w[top]) >> over {
	case 0:
		return false
	case -1:
		// The lower bound itself has the same high bits as what lies above it.
		return *w == words{top: 1<<wordBits - 1<<over}
	}
	return true
}

// size is the value without its sign.
func (w *words) size() api.Nat {
	mag := slices.Clone(w[:])
	if w.below() {
		turn(mag)
	}
	return mag
}

// turn makes of what lacks what there is.
func turn(n api.Nat) {
	carry := uint64(1)
	for i, word := range n {
		carry += uint64(^word)
		n[i] = uint32(carry)
		carry >>= wordBits
	}
}
