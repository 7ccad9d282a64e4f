package pair

import "math"

const oddBits = 0x7FF8000000000000

// number lends its methods' names to the steps, so that they can be handed on.
type number float64

// Each answer is converted, though it has its type: the language lets a product and a sum be done as one step, unless a conversion stands between them.

func (a number) plus(b number) number { return number(a + b) }

func (a number) minus(b number) number { return number(a - b) }

func (a number) times(b number) number { return number(a * b) }

// step is where every step is done: a NaN's bits hang on the machine, and are made those of the one that is answered.
func step(a float64, do func(a, b number) number, b float64) float64 {
	x := float64(do(number(a), number(b)))
	if math.IsNaN(x) {
		return math.Float64frombits(oddBits)
	}
	return x
}
