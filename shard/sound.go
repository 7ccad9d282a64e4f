package shard

import (
	"math"

	"steelyard/api"
	"steelyard/bits"
	"steelyard/dyad"
)

// The least Exps that sums and squares of numbers have, and powers of two that all numbers, and their squares, stay below.
const (
	sumExp     = -1074
	squaresExp = -2148
	sumTop     = 1024
	squaresTop = 2048
)

// sound tells whether what was read is such as a shard may have.
func (s *Shard) sound() bool { return s.soundCounts() && s.soundSums() && s.soundEnds() }

// soundCounts tells whether no more is counted than there is; each number is at most MaxCount already.
func (s *Shard) soundCounts() bool { return plain(s.seen) >= 0 }

// soundSums tells whether so many plain ones may have such sums.
func (s *Shard) soundSums() bool {
	k := plain(s.seen)
	if k == 0 {
		return dyad.Sign(s.sum) == 0 && dyad.Sign(s.squares) == 0
	}
	return s.soundSquares(k) && s.soundSum(k)
}

func (s *Shard) soundSquares(k int) bool {
	return dyad.Sign(s.squares) > 0 && dyad.Cmp(s.squares, scaled(k, squaresTop)) < 0 && s.squares.Exp >= squaresExp
}

// soundSum asks for what is so of all numbers: their sum's square is at most so many times their squares. A sum that is too great for its square to be made is found ahead of that: by the squares' bound it can't be right.
func (s *Shard) soundSum(k int) bool {
	if dyad.Sign(s.sum) == 0 {
		return true
	}
	size := api.Dyad{Mag: s.sum.Mag, Exp: s.sum.Exp}
	if s.sum.Exp < sumExp || dyad.Cmp(size, scaled(k, sumTop)) >= 0 {
		return false
	}
	return dyad.Cmp(times(size, size), times(dyad.Int(k), s.squares)) <= 0
}

// scaled is k times two to the power of exp.
func scaled(k, exp int) api.Dyad {
	d := dyad.Int(k)
	d.Exp += exp
	return d
}

// soundEnds tells whether numbers that are so counted may have such a least and such a greatest one.
func (s *Shard) soundEnds() bool {
	if !s.ranged() {
		return true
	}
	return s.soundLeast() && s.soundMost() && bits.Order(s.least, s.most) <= 0
}

// soundLeast tells it of the least: what is counted tells just which one it is, unless there is a plain one and no -Inf.
func (s *Shard) soundLeast() bool {
	switch {
	case s.seen.Down > 0:
		return bits.Same(s.least, math.Inf(-1))
	case finite(s.seen) == 0:
		return bits.Same(s.least, math.Inf(1))
	case plain(s.seen) == 0:
		return bits.Same(s.least, nought(s.seen.Minus > 0))
	}
	return bits.Class(s.least) < api.Endless
}

// soundMost is soundLeast of the greatest.
func (s *Shard) soundMost() bool {
	switch {
	case s.seen.Up > 0:
		return bits.Same(s.most, math.Inf(1))
	case finite(s.seen) == 0:
		return bits.Same(s.most, math.Inf(-1))
	case plain(s.seen) == 0:
		return bits.Same(s.most, nought(s.seen.Plus == 0))
	}
	return bits.Class(s.most) < api.Endless
}

// nought is -0 if below, else +0.
func nought(below bool) float64 {
	if below {
		return math.Copysign(0, -1)
	}
	return 0
}
