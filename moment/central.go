package moment

import (
	"steelyard/api"
	"steelyard/dyad"
	"steelyard/root"
)

// Central is the mean of the k-th powers about the mean (k 1 to 4), rounded once.
func Central(l []float64, k int, mode int) (float64, api.Errno) {
	if !isMode(mode) || k < 1 || k > 4 {
		return 0, api.ErrArg
	}
	x, e := exact(l)
	switch {
	case e != api.OK:
		return 0, e
	case len(x.all) == 0:
		return 0, api.ErrNone
	}
	return root.Quot(api.Ratio{Num: about(x, k), Den: raised(dyad.Int(len(x.all)), k+1)}, mode)
}

// about is the sum of the k-th powers of n x less the sum of all. It is made of the sums of the powers of x: a number's power has few words, where its distance from the mean may have very many.
func about(x row, k int) api.Dyad {
	n, less := dyad.Int(len(x.all)), dyad.Neg(x.sum)
	return total(k+1, func(j int) api.Dyad {
		own := times(raised(n, j), powers(x, j))
		return times(dyad.Int(over(k, j)), times(own, raised(less, k-j)))
	})
}

// over is how many ways there are to take j out of k.
func over(k, j int) int {
	ways := 1
	for i := range j {
		ways = ways * (k - i) / (i + 1)
	}
	return ways
}

// powers is the sum of the k-th powers.
func powers(x row, k int) api.Dyad {
	return total(len(x.all), func(i int) api.Dyad { return raised(x.all[i], k) })
}
