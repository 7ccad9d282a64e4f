package rank

import (
	"cmp"
	"slices"

	"steelyard/api"
	"steelyard/bits"
)

// row is a list in its order: at says of each place where in the list its number stands.
type row struct {
	list []float64
	at   []int
}

func rowOf(l []float64) row {
	r := row{list: l, at: make([]int, len(l))}
	for i := range r.at {
		r.at[i] = i
	}
	slices.SortFunc(r.at, r.compare)
	return r
}

// compare is how what stands at i in the list stands to what stands at j. Alike ones keep the order of the list: then no two compare as equal, and the sort need not be a stable one.
func (r row) compare(i, j int) int {
	return cmp.Or(bits.Order(r.list[i], r.list[j]), cmp.Compare(i, j))
}

// each is what is made for each number of the list out of its place, in the list's order.
func each[T int | float64](r row, made func(place int) T) []T {
	all := make([]T, len(r.at))
	for place, i := range r.at {
		all[i] = made(place)
	}
	return all
}

// run is all the numbers that are alike to one: before is how many stand ahead of them, alike how many they are, unlike how many unlike ones stand ahead.
type run struct {
	before, alike, unlike int
}

// runs says of each place which run its number is in.
func (r row) runs() []run {
	all := make([]run, len(r.at))
	for from, unlike := 0, 0; from < len(all); unlike++ {
		to := r.behind(from)
		for place := from; place < to; place++ {
			all[place] = run{before: from, alike: to - from, unlike: unlike}
		}
		from = to
	}
	return all
}

// behind is the first place behind those whose numbers are alike to the one of from.
func (r row) behind(from int) int {
	to := from + 1
	for to < len(r.at) && bits.Order(r.list[r.at[from]], r.list[r.at[to]]) == 0 {
		to++
	}
	return to
}

// rank is that of the run's number of a place, by what is done with those that are alike.
func (n run) rank(place, tie int) float64 {
	switch tie {
	case api.TieLow:
		return float64(n.before + 1)
	case api.TieHigh:
		return float64(n.before + n.alike)
	case api.TieMean:
		// Twice the rank is whole: halved as a float, nothing of it is lost.
		return float64(2*n.before+n.alike+1) / 2
	case api.TieDense:
		return float64(n.unlike + 1)
	}
	return float64(place + 1)
}
