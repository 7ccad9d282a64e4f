package bits

import (
	"math"

	"steelyard/api"
)

const (
	oddBits32      = 0x7FC00000
	signBit32      = 1 << 31
	endlessBits32  = 0x7F800000
	greatestBits32 = 0x7F7FFFFF
	fracBits32     = 23
	expBits32      = 8
	leastExp32     = -149
)

// Which of two neighbours of 32 bits is taken for what lies between them: the inner one is nearer to nought.
const (
	inner = iota
	outer
	nearEven
	nearOuter
)

// Narrow rounds to 32 bits.
func Narrow(x float64, mode int) (float32, api.Errno) {
	if mode < api.Even || mode > api.Away {
		return 0, api.ErrArg
	}
	p := Split(x)
	switch p.Class {
	case api.Odd:
		return math.Float32frombits(oddBits32), api.OK
	case api.Nought, api.Endless:
		return float32(x), api.OK
	}
	size := math.Abs(x)
	b := innerBits(size)
	if takesOuter(size, b, taken(mode, p.Neg)) {
		b++
	}
	if p.Neg {
		b |= signBit32
	}
	return math.Float32frombits(b), api.OK
}

// taken says how a mode goes, above nought and below it.
func taken(mode int, neg bool) int {
	table := [...][2]int{
		api.Even: {nearEven, nearEven},
		api.Zero: {inner, inner},
		api.Up:   {outer, inner},
		api.Down: {inner, outer},
		api.Away: {nearOuter, nearOuter},
	}
	if neg {
		return table[mode][1]
	}
	return table[mode][0]
}

// innerBits are those of the greatest finite number of 32 bits that is not above size.
func innerBits(size float64) uint32 {
	// The language leaves open what a conversion beyond the greatest comes to: none is made there.
	if size >= math.MaxFloat32 {
		return greatestBits32
	}
	b := math.Float32bits(float32(size))
	if value32(b) > size {
		b--
	}
	return b
}

// takesOuter tells whether size, which does not lie below the number of the bits b, goes to the one that follows it.
func takesOuter(size float64, b uint32, way int) bool {
	low := value32(b)
	if size == low {
		return false
	}
	// Just so: the middle has one bit more than its neighbours.
	half := low + (value32(b+1)-low)/2
	switch way {
	case outer:
		return true
	case nearEven:
		return size > half || size == half && b&1 == 1
	case nearOuter:
		return size >= half
	}
	return false
}

// value32 is the value of a number of 32 bits; where the infinity stands, the number that would follow the greatest one, as steps are measured by it.
func value32(b uint32) float64 {
	if b == endlessBits32 {
		return 0x1p128
	}
	return Widen(math.Float32frombits(b))
}

// Widen goes back to 64 bits.
func Widen(x float32) float64 {
	if x != x {
		return NaN()
	}
	return float64(x)
}

// Split32 tells the parts of a number of 32 bits.
func Split32(x float32) api.Parts {
	return split(uint64(math.Float32bits(x)), fracBits32, expBits32, leastExp32)
}
