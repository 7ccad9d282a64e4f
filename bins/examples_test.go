package bins

import (
	"math"
	"testing"

	"steelyard/api"
)

// tell fails unless Kept, Bound and Count are just these; a power of two, a few bits: Kept is a number here.
func tell(t *testing.T, what string, b *Bins, kept, bound float64, count int) {
	t.Helper()
	if d := b.Kept(); !alike(d, formed(inUnits(kept))) {
		t.Errorf("%s: Kept {%t %x %d}; want %v", what, d.Neg, d.Mag, d.Exp, kept)
	}
	if x := b.Bound(); !sameBits(x, bound) {
		t.Errorf("%s: Bound %x; want %x", what, x, bound)
	}
	if b.Count() != count {
		t.Errorf("%s: Count %d; want %d", what, b.Count(), count)
	}
}

// The chapter's examples, line by line.
func TestExampleOrders(t *testing.T) {
	for _, l := range [][]float64{{1, 0x1p-33, 0x1p32 + 1}, {0x1p32 + 1, 0x1p-33, 1}} {
		tell(t, "one bin", filled(1, l...), 0x1p32, 3*0x1p32, 3)
		tell(t, "two bins", filled(2, l...), 0x1p32+2, 3, 3)
	}
}

func TestExampleCancels(t *testing.T) {
	b := filled(2, 1, -1)
	tell(t, "1, -1", b, 0, 0x1p-31, 2)
	want(t, "Add(2^-64)", b.Add(0x1p-64), api.OK)
	tell(t, "1, -1, 2^-64", b, 0, 3*0x1p-32, 3)
}

func TestExampleNought(t *testing.T) {
	b := filled(8, noughtBelow)
	tell(t, "-0", b, 0, 0, 1)
	for mode := range 5 {
		if x, e := b.Round(mode); !sameBits(x, 0) || e != api.OK {
			t.Errorf("Round(%d): %v, error %d", mode, x, e)
		}
	}
	want(t, "Add(NaN)", b.Add(math.NaN()), api.ErrOdd)
	if x, e := b.Round(5); !sameBits(x, 0) || e != api.ErrArg {
		t.Errorf("Round(5): %v, error %d", x, e)
	}
	tell(t, "-0 after what is refused", b, 0, 0, 1)
}

func TestExampleFull(t *testing.T) {
	b := filled(1, 1)
	for range 40 {
		want(t, "Merge with itself", b.Merge(b), api.OK)
	}
	tell(t, "2^40 ones", b, 0x1p40, 0x1p40, 1<<40)
	want(t, "Add(1)", b.Add(1), api.ErrLong)
	want(t, "Merge with itself", b.Merge(b), api.ErrLong)
	want(t, "Merge of unlike folds", New(1).Merge(New(2)), api.ErrArg)
	tell(t, "2^40 ones after what is refused", b, 0x1p40, 0x1p40, 1<<40)
}

func TestExampleNone(t *testing.T) {
	if New(0) != nil || New(9) != nil {
		t.Error("New(0), New(9) are not nil")
	}
}
