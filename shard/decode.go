package shard

import (
	"math"

	"steelyard/api"
)

// Decode reads what Encode wrote.
func Decode(b []byte) (*Shard, api.Errno) {
	r := reader{left: b}
	s := r.shard()
	if r.amiss || len(r.left) > 0 || !s.sound() {
		return nil, api.ErrShard
	}
	return s, api.OK
}

// reader is what is left to be read, and whether something was amiss already: then what is read, there and from there on, is of no account.
type reader struct {
	left  []byte
	amiss bool
}

// cut takes the next n bytes off. They have no room behind them: what is left is out of their reach.
func (r *reader) cut(n int) []byte {
	if n > len(r.left) {
		r.amiss = true
		return nil
	}
	next := r.left[0:n:n]
	r.left = r.left[n:]
	return next
}

// number is one of n bytes, the lowest first.
func (r *reader) number(n int) uint64 {
	number := uint64(0)
	for i, b := range r.cut(n) {
		number |= uint64(b) << (byteBits * i)
	}
	return number
}

// upTo is a number of n bytes that may not be above most; so it is an int, too.
func (r *reader) upTo(most uint64, n int) int {
	number := r.number(n)
	if number > most {
		r.amiss = true
		return 0
	}
	return int(number)
}

func (r *reader) shard() *Shard {
	s := New()
	s.seen = r.specials()
	s.sum = r.dyad()
	s.squares = r.dyad()
	if s.ranged() {
		s.least = r.float()
		s.most = r.float()
	}
	return s
}

func (r *reader) specials() api.Specials {
	var n [6]int
	for i := range n {
		n[i] = r.upTo(api.MaxCount, countBytes)
	}
	return api.Specials{NaN: n[0], Up: n[1], Down: n[2], Minus: n[3], Plus: n[4], All: n[5]}
}

func (r *reader) float() float64 { return math.Float64frombits(r.number(floatBytes)) }

// dyad is one in its form.
func (r *reader) dyad() api.Dyad {
	sign := r.upTo(1, signBytes)
	exp := int(r.number(expBytes)) - raised
	size := int(r.number(sizeBytes))
	d := api.Dyad{Neg: sign == 1, Mag: nat(r.cut(wordBytes * size)), Exp: exp}
	if !formed(d) {
		r.amiss = true
	}
	return d
}

// nat is bytes as words.
func nat(b []byte) api.Nat {
	n := make(api.Nat, len(b)/wordBytes)
	words := reader{left: b}
	for i := range n {
		n[i] = uint32(words.number(wordBytes))
	}
	return n
}

// formed tells whether a dyad is in its form.
func formed(d api.Dyad) bool {
	n := len(d.Mag)
	if n == 0 {
		return !d.Neg && d.Exp == 0
	}
	return d.Mag[0]%2 == 1 && d.Mag[n-1] != 0
}
