package hist

import (
	"testing"

	"steelyard/api"
)

// sample is the chapter's h.
func sample(t *testing.T) *Hist {
	h := made(t, 0, 1, 2)
	for _, x := range nums(0, 0.5, 1, 2, noughtBelow, -1, 3, hole, inf, -inf) {
		want(t, "Add", h.Add(x), api.OK)
	}
	return h
}

func TestExampleNoEdges(t *testing.T) {
	refuses(t, "1", 1)
	refuses(t, "1 1", 1, 1)
	refuses(t, "0 -0", 0, noughtBelow)
	refuses(t, "2 1", 2, 1)
	refuses(t, "1 NaN", 1, hole)
	refuses(t, "1 +Inf", 1, inf)
}

func TestExampleCounts(t *testing.T) {
	tells(t, "0 1 2", sample(t), told{counts: ints(3, 2), below: 2, above: 2, odd: 1, all: 10, running: ints(2, 5, 7)})
}

func TestExampleMerge(t *testing.T) {
	h := sample(t)
	want(t, "Merge with itself", h.Merge(h), api.OK)
	is := told{counts: ints(6, 4), below: 4, above: 4, odd: 2, all: 20, running: ints(4, 10, 14)}
	tells(t, "merged with itself", h, is)
	want(t, "Merge of one of 0 1 3", h.Merge(made(t, 0, 1, 3)), 170)
	tells(t, "after what is refused", h, is)
}

func TestExampleEdges(t *testing.T) {
	for _, c := range []struct {
		name   string
		lo, hi float64
		parts  int
		is     []float64
		e      api.Errno
	}{
		{"0, 1, 4", 0, 1, 4, nums(0, 0.25, 0.5, 0.75, 1), api.OK},
		{"0, 0.3, 3", 0, 0.3, 3, nums(0, 0.09999999999999999, 0.19999999999999998, 0.3), api.OK},
		{"1, 1, 2", 1, 1, 2, nil, 170},
		{"2, 1, 1", 2, 1, 1, nil, 170},
		{"0, 1, 0", 0, 1, 0, nil, 1},
		{"0, 1, 1024", 0, 1, 1024, nil, 1},
		{"NaN, 1, 1", hole, 1, 1, nil, 30},
		{"0, the least, 2", 0, 5e-324, 2, nil, 170},
		{"less the greatest, the greatest, 2", -greatest, greatest, 2, nums(-greatest, 0, greatest), api.OK},
	} {
		l, e := Edges(c.lo, c.hi, c.parts)
		lists(t, c.name, l, c.is)
		want(t, c.name, e, c.e)
	}
}
