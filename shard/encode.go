package shard

import (
	"math"

	"steelyard/api"
)

// How many bytes each part has.
const (
	byteBits   = 8
	countBytes = 8
	floatBytes = 8
	signBytes  = 1
	expBytes   = 2
	sizeBytes  = 2
	wordBytes  = 4
)

// raised is what is added to a dyad's Exp, so that it is written without a sign.
const raised = 4096

// Encode is it as bytes: one way for each.
func (s *Shard) Encode() []byte {
	n := s.seen
	var parts [][]byte
	for _, count := range [...]int{n.NaN, n.Up, n.Down, n.Minus, n.Plus, n.All} {
		parts = append(parts, low(uint64(count), countBytes))
	}
	parts = append(parts, written(s.sum), written(s.squares))
	if s.ranged() {
		parts = append(parts, low(math.Float64bits(s.least), floatBytes), low(math.Float64bits(s.most), floatBytes))
	}
	return joined(parts)
}

// written is a dyad's bytes.
func written(d api.Dyad) []byte {
	sign := uint64(0)
	if d.Neg {
		sign = 1
	}
	parts := [][]byte{low(sign, signBytes), low(uint64(d.Exp+raised), expBytes), low(uint64(len(d.Mag)), sizeBytes)}
	for _, word := range d.Mag {
		parts = append(parts, low(uint64(word), wordBytes))
	}
	return joined(parts)
}

// low is a number's n lowest bytes, the lowest first.
func low(number uint64, n int) []byte {
	b := make([]byte, n)
	for i := range b {
		b[i] = byte(number >> (byteBits * i))
	}
	return b
}

// joined is the parts, one behind the other.
func joined(parts [][]byte) []byte {
	size := 0
	for _, part := range parts {
		size += len(part)
	}
	all := make([]byte, size)
	at := 0
	for _, part := range parts {
		at += copy(all[at:], part)
	}
	return all
}
