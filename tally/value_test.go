package tally

import (
	"testing"

	"steelyard/api"
)

// P18.1: what New gives has counted nothing.
func TestNew(t *testing.T) {
	for _, joined := range kinds {
		h := New(joined)
		if h == nil {
			t.Fatal("New: nil")
		}
		if l := h.Entries(); len(l) != 0 || h.All() != 0 || h.Unlike() != 0 {
			t.Errorf("Entries %x, All %d, Unlike %d", l, h.All(), h.Unlike())
		}
		if e, there := h.Often(); there || !sameEntry(e, api.Entry{}) {
			t.Errorf("Often %x, %t", e, there)
		}
		for _, x := range append(ends(), odds()...) {
			if n := h.Count(x); n != 0 {
				t.Errorf("Count(%x) %d", x, n)
			}
			if h.Take(x) {
				t.Errorf("Take(%x): true", x)
			}
		}
	}
}

// P18.2: every NaN is one value, whatever its bits, and is told as the one that is answered.
func TestValueOfNaN(t *testing.T) {
	for _, joined := range kinds {
		w := pairUp(t, joined)
		for i, x := range odds() {
			w.add(x)
			w.has("NaN of many bits", entry(hole, i+1))
			for _, y := range odds() {
				if n := w.h.Count(y); n != i+1 {
					t.Errorf("Count(%x) after %x: %d; want %d", hex(y), hex(x), n, i+1)
				}
			}
			if e, there := w.h.Often(); !there || !sameEntry(e, entry(hole, i+1)) {
				t.Errorf("Often of NaN: %x, %t", e, there)
			}
		}
		for i := range odds() {
			// What comes first is taken last: each is taken as another than it was added.
			w.take(odds()[len(odds())-1-i])
			if n := w.h.All(); n != len(odds())-1-i {
				t.Errorf("All %d after %d were taken", n, i+1)
			}
		}
		w.has("NaN taken again")
	}
}

// P18.2: both noughts are two values, if the tally is not joined; else one, which is +0.
func TestValueOfNoughts(t *testing.T) {
	w := pairUp(t, false, noughtBelow)
	w.has("-0", entry(noughtBelow, 1))
	if w.h.Count(0) != 0 || w.h.Count(noughtBelow) != 1 || w.take(0) {
		t.Error("-0 was counted as +0")
	}
	w.add(0)
	w.add(0)
	w.has("-0 and +0", entry(noughtBelow, 1), entry(0, 2))
	w.take(noughtBelow)
	w.has("+0", entry(0, 2))
	if w.take(noughtBelow) {
		t.Error("+0 was taken as -0")
	}

	w = pairUp(t, true, noughtBelow)
	w.has("joined -0", entry(0, 1))
	if w.h.Count(0) != 1 || w.h.Count(noughtBelow) != 1 {
		t.Error("joined: -0 was not counted as +0")
	}
	w.add(0)
	w.add(noughtBelow)
	w.has("joined noughts", entry(0, 3))
	if !w.take(0) || !w.take(noughtBelow) || !w.take(0) || w.take(0) || w.take(noughtBelow) {
		t.Error("joined: noughts taken as either")
	}
	w.has("joined noughts taken again")
}

// P18.2: of all others the value is the number itself, to the last bit and with its sign, in both kinds.
func TestValueOfOthers(t *testing.T) {
	for _, joined := range kinds {
		for _, x := range ends() {
			if x == 0 {
				continue
			}
			w := pairUp(t, joined, x)
			w.has("alone", entry(x, 1))
			for _, y := range ends() {
				if is := hex(y) == hex(x); (w.h.Count(y) == 1) != is {
					t.Errorf("Count(%x) of %x: %d", y, x, w.h.Count(y))
				}
			}
			w.add(x)
			w.has("twice", entry(x, 2))
			if w.take(turned(x)) || !w.take(x) || !w.take(x) {
				t.Errorf("Take of %x", x)
			}
			w.has("taken again")
		}
	}
}

// P18.2: numbers of all ends together are as many values as there are; each is counted on its own.
func TestValuesTogether(t *testing.T) {
	for _, joined := range kinds {
		w := pairUp(t, joined)
		for i, x := range ends() {
			for range i + 1 {
				w.add(x)
			}
		}
		w.tells("all ends")
		n := len(ends())
		if joined {
			n--
		}
		if w.h.Unlike() != n {
			t.Errorf("joined %t: Unlike %d; want %d", joined, w.h.Unlike(), n)
		}
		for i, x := range ends() {
			if x != 0 && w.h.Count(x) != i+1 {
				t.Errorf("Count(%x) %d; want %d", x, w.h.Count(x), i+1)
			}
		}
	}
}
