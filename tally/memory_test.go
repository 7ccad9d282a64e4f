package tally

import (
	"slices"
	"testing"

	"steelyard/api"
)

// fill writes over all of an answer, its spare room too.
func fill(l []api.Entry, by api.Entry) {
	l = l[:cap(l)]
	for i := range l {
		l[i] = by
	}
}

// R2: what is answered is its owner's, its spare room too: written over, it changes neither the tally nor another answer; nor does it change with the tally.
func TestAnswersAreNew(t *testing.T) {
	for _, joined := range kinds {
		for _, w := range starts(t, joined) {
			first, second := w.h.Entries(), w.h.Entries()
			was := slices.Clone(first)
			fill(w.h.Entries(), entry(77, -77))
			w.tells("after what it told was written over")
			for _, x := range append(sorts(), 0.3) {
				w.add(x)
				w.add(x)
				w.take(1)
			}
			w.merge(w)
			if !sameEntries(first, was) || !sameEntries(second, was) {
				t.Errorf("what was told has changed: %x; it was %x", brief(first), brief(was))
			}
			fill(first, entry(78, -78))
			if !sameEntries(second, was) {
				t.Error("two answers share memory")
			}
			fill(second, entry(79, -79))
			w.tells("after what it told before was written over")
		}
	}
}

// R2: tallies have nothing in common: of one New after the other, merged with each other, with none, into none.
func TestNothingInCommon(t *testing.T) {
	group := []*twin{}
	for i := range 6 {
		group = append(group, pairUp(t, kinds[i%2]))
	}
	for i, x := range slices.Concat(sorts(), sorts(), sorts()) {
		group[i%6].add(x)
		group[i%6].merge(group[(i+1)%6])
		group[(i+2)%6].take(x)
		for _, w := range group {
			w.tells("one of six")
		}
	}
	for _, joined := range kinds {
		none, one := pairUp(t, joined), pairUp(t, joined, 1, 1, hole)
		none.merge(one)
		none.take(1)
		one.has("what was merged into none", entry(1, 2), entry(hole, 1))
		one.take(hole)
		none.has("none, merged into", entry(1, 1), entry(hole, 1))
		one.merge(pairUp(t, joined))
		one.add(2)
		one.has("merged with none", entry(1, 2), entry(2, 1))
	}
}

// R6: the same calls answer the same, whatever was asked in between, and asking changes nothing.
func TestAskingChangesNothing(t *testing.T) {
	for _, joined := range kinds {
		w := pairUp(t, joined, slices.Concat(ends(), odds(), ends())...)
		before := w.h.Entries()
		for range 30 {
			w.h.Often()
			w.h.Count(0.3)
			w.h.Count(1)
			w.h.All()
			w.h.Unlike()
			w.h.Take(0.3)
			w.has("asked again", before...)
		}
	}
}

// R6: what is told hangs on no map's order: the same calls on many tallies, of many values that are there as often.
func TestMapsOrderIsNotSeen(t *testing.T) {
	d := dice(186)
	for _, joined := range kinds {
		var l []float64
		for range 200 {
			l = append(l, d.any())
		}
		first := filled(t, joined, l...)
		entries := first.Entries()
		often, _ := first.Often()
		for range 50 {
			again := filled(t, joined, l...)
			e, there := again.Often()
			if !sameEntries(again.Entries(), entries) || !there || !sameEntry(e, often) {
				t.Fatalf("the same calls: Often %x, %t; want %x", e, there, often)
			}
		}
	}
}
