package pool

import (
	"math/big"
	"slices"
	"testing"

	"steelyard/api"
)

// whose is the worker of a turn by the words' own rule: big's Mod leaves what is 0 or above.
func whose(turn, workers int, order []int) int {
	if len(order) == 0 {
		return 0
	}
	place := new(big.Int).Mod(big.NewInt(int64(turn)), big.NewInt(int64(len(order))))
	n := big.NewInt(int64(order[place.Int64()]))
	return int(n.Mod(n, big.NewInt(int64(workers))).Int64())
}

// turns fails unless Turns tells each turn by the words' own rule.
func turns(t *testing.T, pieces, workers int, order []int) {
	t.Helper()
	got, e := Turns(pieces, workers, order)
	if e != api.OK || len(got) != pieces {
		t.Fatalf("Turns(%d, %d, %d): %d turns, error %d", pieces, workers, brief(order), len(got), e)
	}
	for turn, g := range got {
		if want := [2]int{whose(turn, workers, order), turn}; g != want {
			t.Fatalf("Turns(%d, %d, %d), the turn %d: %d; want %d", pieces, workers, brief(order), turn, g, want)
		}
	}
}

// P23.3: schedules of all kinds, shorter and longer than the turns, by all workers that may be.
func TestTurns(t *testing.T) {
	for _, order := range schedules() {
		for workers := 1; workers <= most; workers++ {
			for _, pieces := range []int{0, 1, 2, 3, 10, 41, 250} {
				turns(t, pieces, workers, order)
			}
		}
	}
}

// P23.3: all short schedules of small numbers, on either side of nought.
func TestShortSchedules(t *testing.T) {
	for n := range 4 {
		eachList(n, order(-7, -3, -2, -1, 0, 1, 2, 3, 7), func(order []int) {
			for workers := 1; workers <= 4; workers++ {
				turns(t, 5, workers, order)
			}
		})
	}
}

// P23.3: as many pieces as may be; a schedule of that many, and of more.
func TestTurnsAtTheLimit(t *testing.T) {
	d := dice(2302)
	for _, n := range []int{0, 1, 3, longest - 1, longest, longest + 1, longest + 100} {
		turns(t, longest, 1, d.order(n))
		turns(t, longest, most, d.order(n))
		turns(t, 1, 7, d.order(n))
	}
}

// P23.3: pieces and workers that may not be: ErrArg, whatever else there is, and no turns.
func TestNoTurns(t *testing.T) {
	refused := func(pieces, workers int, order []int) {
		t.Helper()
		if got, e := Turns(pieces, workers, order); e != api.ErrArg || len(got) != 0 {
			t.Errorf("Turns(%d, %d, %d): %d turns, error %d", pieces, workers, brief(order), len(got), e)
		}
	}
	for _, order := range schedules() {
		for _, pieces := range noSizes() {
			// No pieces at all may be.
			if pieces == 0 {
				continue
			}
			for _, workers := range append(noWorkers(), 1, 2, most) {
				refused(pieces, workers, order)
			}
		}
		for _, workers := range noWorkers() {
			for _, pieces := range []int{0, 1, 2, longest} {
				refused(pieces, workers, order)
			}
		}
	}
}

// P23.1: each worker has in the end just what the pieces come to that Turns tells for it.
func TestEachHasItsTurns(t *testing.T) {
	d := dice(2303)
	for _, order := range schedules() {
		for _, workers := range []int{1, 2, 3, 5, most} {
			l := d.list(30+d.below(20), (*dice).finite)
			size := 1 + d.below(4)
			pieces := cut(l, size)
			turns, _ := Turns(len(pieces), workers, order)
			own := make([][]float64, workers)
			for _, turn := range turns {
				own[turn[0]] = append(own[turn[0]], l[turn[1]*size:min(len(l), (turn[1]+1)*size)]...)
			}
			crew := byTurns(pieces, workers, order)
			if len(crew) != workers {
				t.Fatalf("%d workers; want %d", len(crew), workers)
			}
			for i, w := range crew {
				want := nothing()
				want.add(own[i])
				if *w.has.sum != *want.sum {
					t.Errorf("%d workers by %d: the worker %d has not what its turns come to", workers, brief(order), i)
				}
			}
		}
	}
}

// The pieces of a list: size by size, the last one has what is left; an empty list has none.
func TestPieces(t *testing.T) {
	for n := range 40 {
		l := make([]float64, n)
		for i := range l {
			l[i] = float64(i)
		}
		for _, size := range []int{1, 2, 3, 4, 7, 13, 38, 39, 40, longest} {
			pieces := cut(l, size)
			if len(pieces) != (n+size-1)/size || !slices.Equal(slices.Concat(pieces...), l) {
				t.Errorf("%d numbers by %d: %g", n, size, pieces)
			}
			for i, piece := range pieces {
				if len(piece) != size && i < len(pieces)-1 || len(piece) == 0 || len(piece) > size {
					t.Errorf("%d numbers by %d: the piece %d has %d", n, size, i, len(piece))
				}
			}
		}
	}
}
