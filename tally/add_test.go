package tally

import (
	"testing"

	"steelyard/api"
)

// P18.2: with MaxCount numbers of whatever values each more is refused, and all stays as it was.
func TestAddLong(t *testing.T) {
	for _, joined := range kinds {
		rows := [][]float64{sorts(), ends()}
		for _, x := range sorts() {
			rows = append(rows, nums(x))
		}
		for _, row := range rows {
			w := many(t, joined, most-2, row...)
			for _, x := range nums(hole, 5) {
				want(t, "one that there is room for", w.add(x), api.OK)
			}
			w.tells("full")
			for _, x := range append(odds(), append(ends(), 0.3)...) {
				want(t, "one too many", w.add(x), api.ErrLong)
			}
			w.tells("full, and asked for more")
			if w.h.All() != most || w.h.Count(0.3) != 0 {
				t.Errorf("full: All %d, Count(0.3) %d", w.h.All(), w.h.Count(0.3))
			}
		}
	}
}

// P18.2: after MaxCount what is taken makes room for as many, of whatever value.
func TestAddAfterTake(t *testing.T) {
	for _, joined := range kinds {
		for _, x := range sorts() {
			for _, y := range sorts() {
				w := many(t, joined, most, x)
				if !w.take(x) || !w.take(x) {
					t.Errorf("Take(%x) of MaxCount: false", x)
				}
				want(t, "one that there is room for", w.add(y), api.OK)
				want(t, "another one", w.add(y), api.OK)
				want(t, "one too many", w.add(y), api.ErrLong)
				if w.take(0.3) {
					t.Error("Take(0.3): true")
				}
				want(t, "after a Take that was false", w.add(y), api.ErrLong)
				w.tells("full again")
			}
		}
	}
}

// P18.2: of what is not counted Take is false, and nothing is changed.
func TestTakeNone(t *testing.T) {
	for _, joined := range kinds {
		for _, w := range starts(t, joined) {
			before := w.h.Entries()
			for _, x := range append(odds(), append(ends(), 0.3)...) {
				if w.m.count(x) == 0 && w.h.Take(x) {
					t.Errorf("Take(%x): true", x)
				}
			}
			w.has("taken of what is not there", before...)
		}
	}
}

// P18.2: what was counted once, and is taken, is there no more; what was counted more often is there once less.
func TestTake(t *testing.T) {
	for _, joined := range kinds {
		for _, x := range append(odds(), ends()...) {
			w := pairUp(t, joined, 5, x, 5, 0.3)
			unlike := w.h.Unlike()
			if !w.take(x) {
				t.Errorf("Take(%x): false", x)
			}
			w.has("taken once", entry(0.3, 1), entry(5, 2))
			if w.h.Count(x) != 0 || w.h.Unlike() != unlike-1 || w.h.All() != 3 || w.take(x) {
				t.Errorf("%x is still there: Count %d, Unlike %d, All %d", x, w.h.Count(x), w.h.Unlike(), w.h.All())
			}
			for n := range 6 {
				w = pairUp(t, joined, 0.3)
				for range n {
					w.add(x)
				}
				for i := range n + 2 {
					if got := w.take(x); got != (i < n) {
						t.Errorf("Take(%x) after %d of %d: %t", x, i, n, got)
					}
					w.tells("taken one by one")
				}
				w.has("all taken", entry(0.3, 1))
			}
		}
	}
}

// P18.2: Often moves on, when what was there most often is taken, and there is none, when all is.
func TestTakeTheMostOften(t *testing.T) {
	for _, joined := range kinds {
		w := pairUp(t, joined, hole, 3, 3, -1, -1, -1, inf, inf)
		for range 20 {
			e, there := w.h.Often()
			if there != w.take(e.Value) {
				t.Errorf("Often %x, %t: not what is there", e, there)
			}
			w.tells("less the most often")
		}
		w.has("nothing left")
	}
}

// P18.2: what was there no more comes again as one that is new.
func TestAddAgain(t *testing.T) {
	for _, joined := range kinds {
		w := pairUp(t, joined)
		for range 5 {
			for _, x := range sorts() {
				w.add(x)
				w.tells("added")
				w.take(x)
				w.has("taken")
			}
		}
	}
}

// P18.2, P18.4: many calls of Add and Take: what is told is what was counted, all the way.
func TestManyAddsAndTakes(t *testing.T) {
	d := dice(181)
	for range 300 {
		w := pairUp(t, d.joined())
		row := d.row(30)
		for range d.below(120) {
			if x := d.of(row); d.below(5) < 3 {
				w.add(x)
			} else {
				w.take(x)
			}
			if d.below(6) == 0 {
				w.tells("on the way")
			}
		}
		w.tells("at the end")
	}
}

// P18.2, P18.4: of many unlike values.
func TestManyValues(t *testing.T) {
	d := dice(182)
	for _, joined := range kinds {
		w := pairUp(t, joined)
		var l []float64
		for range 3000 {
			l = append(l, d.any())
		}
		for _, x := range l {
			w.add(x)
		}
		w.tells("many values")
		for _, x := range d.shuffled(l)[:2000] {
			if !w.take(x) {
				t.Errorf("Take(%x): false", x)
			}
		}
		w.tells("many values, most of them taken")
	}
}
