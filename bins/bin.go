package bins

import (
	"steelyard/api"
	"steelyard/dyad"
)

// A slice has width bits; a whole number's lowest ones are taken by mask.
const (
	width = 32
	mask  = 1<<width - 1
)

// bin is high times 2^32, and low, which is from 0 to 2^32 - 1: MaxCount slices come to more than a word of 64 bits has.
type bin struct {
	high, low int
}

// binOf has n, of either sign.
func binOf(n int) bin { return bin{n >> width, n & mask} }

func (n bin) plus(m bin) bin {
	low := binOf(n.low + m.low)
	return bin{n.high + m.high + low.high, low.low}
}

// exact is what n counts as the bin j.
func (n bin) exact(j int) api.Dyad {
	sum, _ := dyad.Add(inBin(n.high, j+1), inBin(n.low, j))
	return sum
}

// inBin is n times 2^(32 j).
func inBin(n, j int) api.Dyad {
	d := dyad.Int(n)
	d, _ = dyad.Make(d.Neg, d.Mag, d.Exp+width*j)
	return d
}

// eachSlice hands on the slices that are not 0 of a finite number, the highest first, each with its bin and its sign.
func eachSlice(p api.Parts, hand func(j int, slice bin)) {
	// A shift rounds down, below nought too, as bins are cut.
	lowest := p.Exp >> 5
	up := p.Exp - width*lowest
	// Frac has 53 bits and goes up by 31 at most, which is three bins; what this shifts out of a word, the slices above have.
	slices := [...]uint64{p.Frac >> (2*width - up), p.Frac >> (width - up) & mask, p.Frac << up & mask}
	for i, slice := range slices {
		n := int(slice)
		if p.Neg {
			n = -n
		}
		if n != 0 {
			hand(lowest+2-i, binOf(n))
		}
	}
}
