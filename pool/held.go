package pool

import (
	"steelyard/api"
	"steelyard/bits"
	"steelyard/moment"
	"steelyard/policy"
	"steelyard/super"
)

// held is what a worker has of the pieces that it took, or what they all have; the squares' sum where it is asked for. A list has far fewer numbers than a sum may have things, so that nothing is refused on the way.
type held struct{ sum, squares *super.Acc }

func nothing() held { return held{sum: super.New(), squares: super.New()} }

func (h held) add(piece []float64) {
	for _, x := range piece {
		h.sum.Add(x)
	}
}

func (h held) addSquared(piece []float64) {
	for _, x := range piece {
		h.sum.Add(x)
		h.squares.AddProduct(x, x)
	}
}

// put is for what another one has, which keeps it.
func (h held) put(other held) {
	h.sum.Merge(other.sum)
	h.squares.Merge(other.squares)
}

func (h held) total(mode int, p api.Policy) (float64, api.Errno) { return h.sum.Round(mode, p) }

func (h held) variance(less, mode int, p api.Policy) (float64, api.Errno) {
	// What a policy refuses of a sum it refuses of a variance, too.
	if _, e := h.sum.Round(mode, p); e != api.OK {
		return 0, e
	}
	seen := h.sum.Specials()
	// An infinity has no spread: whatever is carried, it is the NaN.
	if _, carried := policy.Verdict(seen, p); carried {
		return bits.NaN(), api.OK
	}
	n := seen.All - seen.NaN - seen.Up - seen.Down
	if n <= less {
		return 0, api.ErrNone
	}
	return moment.Of(n, h.sum.Exact(), h.squares.Exact(), less, mode)
}
