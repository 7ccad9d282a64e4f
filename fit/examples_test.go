package fit

import (
	"testing"

	"steelyard/api"
)

// The chapter's examples of Line.
func TestExampleLine(t *testing.T) {
	for _, c := range []struct {
		name string
		x, y []float64
		mode int
		is   api.Fit
		e    api.Errno
	}{
		{"0, 1, 2; 1, 3, 5", nums(0, 1, 2), nums(1, 3, 5), 0, api.Fit{N: 3, Slope: 2, Cut: 1, Told: 1}, api.OK},
		{"0, 1, 2; 0, 1, 1", nums(0, 1, 2), nums(0, 1, 1), 0, api.Fit{N: 3, Slope: 0.5, Cut: 0x1.5555555555555p-3, Told: 0.75, Left: 0x1.5555555555555p-3}, api.OK},
		{"1, 2; 5, 5", nums(1, 2), nums(5, 5), 0, api.Fit{N: 2, Cut: 5, Told: 1}, api.OK},
		{"1, 1; 2, 3", nums(1, 1), nums(2, 3), 0, api.Fit{}, 190},
		{"-0, 0; 1, 2", nums(noughtBelow, 0), nums(1, 2), 0, api.Fit{}, 190},
		{"1; 1", nums(1), nums(1), 0, api.Fit{}, 3},
		{"1, 2; 1", nums(1, 2), nums(1), 0, api.Fit{}, 4},
		{"1, 2; 1, NaN", nums(1, 2), nums(1, hole), 0, api.Fit{}, 30},
		{"mode 5", nums(0, 1, 2), nums(1, 3, 5), 5, api.Fit{}, 1},
		{"0, 2^1000; 0, 2^1000", nums(0, 0x1p1000), nums(0, 0x1p1000), 0, api.Fit{N: 2, Slope: 1, Told: 1}, api.OK},
		// DOC.md's ninth example of the whole.
		{"1, 2, 3; 2, 4, 6", nums(1, 2, 3), nums(2, 4, 6), 0, api.Fit{N: 3, Slope: 2, Told: 1}, api.OK},
	} {
		f, e := Line(c.x, c.y, c.mode)
		fits(t, c.name, f, e, c.is, c.e)
	}
}

func TestExampleAt(t *testing.T) {
	for _, c := range []struct {
		name string
		x, y []float64
		at   float64
		is   float64
		e    api.Errno
	}{
		{"0, 1, 2; 1, 3, 5; 10", nums(0, 1, 2), nums(1, 3, 5), 10, 21, api.OK},
		{"0, 1, 2; 0, 1, 1; 1", nums(0, 1, 2), nums(0, 1, 1), 1, 0x1.5555555555555p-1, api.OK},
		{"0, 1; 0, 1; +Inf", nums(0, 1), nums(0, 1), inf, 0, 30},
		{"0, 1; 1, 0; 1", nums(0, 1), nums(1, 0), 1, 0, api.OK},
	} {
		x, e := At(c.x, c.y, c.at, 0)
		answers(t, c.name, x, e, c.is, c.e)
	}
}

func TestExampleThrough(t *testing.T) {
	for _, c := range []struct {
		name string
		x, y []float64
		is   float64
		e    api.Errno
	}{
		{"1, 2; 2, 4", nums(1, 2), nums(2, 4), 2, api.OK},
		{"0, 0; 1, 2", nums(0, 0), nums(1, 2), 0, 190},
		{"none", nil, nil, 0, 3},
		{"2; 3", nums(2), nums(3), 1.5, api.OK},
	} {
		x, e := Through(c.x, c.y, 0)
		answers(t, c.name, x, e, c.is, c.e)
	}
}
