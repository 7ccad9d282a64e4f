package slide

import (
	"slices"
	"testing"

	"steelyard/api"
	"steelyard/bits"
	"steelyard/mean"
	"steelyard/moment"
	"steelyard/sums"
)

// twin is a Slide, and beside it what its list must be.
type twin struct {
	t    *testing.T
	s    *Slide
	size int
	list []float64
}

// pairUp makes one, to which these are pushed.
func pairUp(t *testing.T, size int, l ...float64) *twin {
	t.Helper()
	w := &twin{t: t, s: New(size), size: size}
	if w.s == nil {
		t.Fatalf("New(%d): nil", size)
	}
	w.push(l...)
	return w
}

// push pushes these, one behind the other, and sees to Len behind each.
func (w *twin) push(l ...float64) {
	w.t.Helper()
	for _, x := range l {
		w.s.Push(x)
		if len(w.list) == w.size {
			w.list = slices.Delete(w.list, 0, 1)
		}
		w.list = append(w.list, x)
		if n := w.s.Len(); n != len(w.list) {
			w.t.Errorf("Len %d; want %d", n, len(w.list))
		}
	}
}

// holds fails unless two calls answer the same, bit by bit, errors too.
func (w *twin) holds(what string, x float64, e api.Errno, is float64, err api.Errno) {
	w.t.Helper()
	if e != err || hex(x) != hex(is) {
		w.t.Errorf("%s of the last %d, %x: %x, error %d; want %x, error %d", what, w.size, w.list[:min(len(w.list), 12)], x, e, is, err)
	}
}

// asks holds Sum, Mean, Var against what the layers below answer of the list.
func (w *twin) asks(mode int, p api.Policy) {
	w.t.Helper()
	x, e := w.s.Sum(mode, p)
	is, err := sums.Exact(w.list, mode, p)
	w.holds("Sum", x, e, is, err)
	x, e = w.s.Mean(mode, p)
	is, err = mean.Mean(w.list, mode, p)
	w.holds("Mean", x, e, is, err)
	for less := range 2 {
		w.varies(less, mode, p)
	}
}

func (w *twin) varies(less, mode int, p api.Policy) {
	w.t.Helper()
	x, e := w.s.Var(less, mode, p)
	is, err := moment.Var(w.list, less, mode, p)
	w.holds("Var", x, e, is, err)
}

// outdone is what Least (side -1) or Most (side 1) must answer, by going through the list.
func outdone(l []float64, side int) (float64, api.Errno) {
	if len(l) == 0 {
		return 0, api.ErrNone
	}
	best := hole
	for _, x := range l {
		if x == x && (best != best || bits.Order(x, best) == side) {
			best = x
		}
	}
	return best, api.OK
}

func (w *twin) ends() {
	w.t.Helper()
	x, e := w.s.Least()
	is, err := outdone(w.list, -1)
	w.holds("Least", x, e, is, err)
	x, e = w.s.Most()
	is, err = outdone(w.list, 1)
	w.holds("Most", x, e, is, err)
}

// tells holds all that is told against the list: by every mode and every policy.
func (w *twin) tells() {
	w.t.Helper()
	if n := w.s.Len(); n != len(w.list) {
		w.t.Errorf("Len %d; want %d", n, len(w.list))
	}
	w.ends()
	for mode := range 5 {
		for _, p := range policies() {
			w.asks(mode, p)
		}
	}
}

// glance is tells by one mode, and one policy beside the one that carries all.
func (w *twin) glance(d *dice) {
	w.t.Helper()
	w.ends()
	w.asks(d.below(5), plain)
	w.asks(d.below(5), policies()[d.below(9)])
}
