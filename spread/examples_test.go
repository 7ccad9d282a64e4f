package spread

import (
	"math"
	"testing"

	"steelyard/api"
)

// partsAre fails unless Parts tells just these.
func partsAre(t *testing.T, s *Spread, is ...float64) {
	t.Helper()
	if l := s.Parts(); !sameList(l, is) {
		t.Errorf("Parts: %v; want %v", l, is)
	}
}

// roundsTo fails unless Round answers just these bits.
func roundsTo(t *testing.T, s *Spread, mode int, is float64) {
	t.Helper()
	if x, e := s.Round(mode); math.Float64bits(x) != math.Float64bits(is) || e != api.OK {
		t.Errorf("Round(%d): %v, error %d; want %v", mode, x, e, is)
	}
}

// The chapter's examples, line by line.
func TestExamples(t *testing.T) {
	s := New()
	partsAre(t, s)
	roundsTo(t, s, api.Even, 0)
	if d := s.Exact(); !alike(d, api.Dyad{}) {
		t.Errorf("Exact of none: %+v", d)
	}

	s = of(1, 0x1p-60, -1)
	partsAre(t, s, 0x1p-60)
	roundsTo(t, s, api.Even, 0x1p-60)

	s = of(0x1p53, 1)
	partsAre(t, s, 0x1p53, 1)
	roundsTo(t, s, api.Even, 0x1p53)
	roundsTo(t, s, api.Up, 0x1p53+2)
	roundsTo(t, s, api.Down, 0x1p53)

	partsAre(t, of(.1, .1, .1, .1, .1, .1, .1, .1, .1, .1), 1, 5.551115123125783e-17)

	s = of(greatest, greatest, greatest)
	partsAre(t, s, greatest, greatest, greatest)
	roundsTo(t, s, api.Even, inf)
	roundsTo(t, s, api.Zero, greatest)

	partsAre(t, of(1e308, 1e308, -1e308), 1e308)

	s = of(noughtBelow)
	partsAre(t, s)
	roundsTo(t, s, api.Up, 0)
}

func TestExampleRefused(t *testing.T) {
	w := pairUp(t, 1, 2)
	want(t, "Add(+Inf)", w.s.Add(inf), api.ErrOdd)
	want(t, "Add(NaN)", w.s.Add(math.NaN()), api.ErrOdd)
	w.tells()
}

func TestExampleFull(t *testing.T) {
	s := of(1)
	for range 16 {
		want(t, "Merge with itself", s.Merge(s), api.OK)
	}
	want(t, "Add(1)", s.Add(1), api.ErrLong)
	want(t, "Merge with itself", s.Merge(s), api.ErrLong)
	roundsTo(t, s, api.Even, 65536)
}
