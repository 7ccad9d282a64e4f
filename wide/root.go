package wide

import (
	"math/bits"

	"steelyard/api"
)

// Root is the whole root, and what is left.
func Root(n api.Nat) (root, left api.Nat) {
	n = trim(n)
	if len(n) == 0 {
		return nil, nil
	}
	root = nearRoot(n)
	square := mul(root, root)
	if Cmp(square, n) > 0 {
		root = sub(root, api.Nat{1})
		square = mul(root, root)
	}
	return root, sub(n, square)
}

// nearRoot is the root, or one more, of what is above nought. Each step of Newton's way takes as many bits of n as it can make good use of, so that the last step costs most of all.
func nearRoot(n api.Nat) api.Nat {
	last := (Len(n) - 1) / 2
	root := api.Nat{1}
	// Ahead of each step root lies less than one from the root of n's highest bits, all but 2 (last - good).
	good := 0
	for s := bits.Len(uint(last)) - 1; s >= 0; s-- {
		next := last >> s
		q, _ := div(down(n, 2*last-good-next+1), root)
		root = add(up(root, next-good-1), q)
		good = next
	}
	return root
}
