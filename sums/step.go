package sums

import "steelyard/bits"

// number is one of 64 bits, or of 32.
type number interface{ float32 | float64 }

// Each step's answer is converted, though it has its type: the language lets steps be put together, unless a conversion stands between them.

func plus[F number](a, b F) F { return F(a + b) }

func minus(a, b float64) float64 { return float64(a - b) }

// running starts with the first one, not with +0, beside which a -0 would lose its sign.
func running[F number](l []F) F {
	if len(l) == 0 {
		return 0
	}
	s := l[0]
	for _, x := range l[1:] {
		s = plus(s, x)
	}
	return s
}

// told is where an answer leaves: a NaN's bits hang on the machine, and are made those of the one that is answered.
func told(x float64) float64 {
	if x != x {
		return bits.NaN()
	}
	return x
}
