package pool

import (
	"runtime"
	"slices"
	"sync"
	"sync/atomic"
	"testing"

	"steelyard/api"
)

// P23.2: that many goroutines are at work at a time, and each piece is taken once.
func TestAllAtWork(t *testing.T) {
	for _, workers := range []int{1, 2, 3, 17, most} {
		l := make([]float64, 3*workers)
		for i := range l {
			l[i] = float64(i)
		}
		var there sync.WaitGroup
		there.Add(workers)
		var came atomic.Int64
		var door sync.Mutex
		var seen []float64
		all := freely(cut(l, 1), workers, func(h held, piece []float64) {
			// The first ones wait for each other: they are not there, unless each has a goroutine of its own.
			if came.Add(1) <= int64(workers) {
				there.Done()
				there.Wait()
			}
			h.add(piece)
			door.Lock()
			defer door.Unlock()
			seen = append(seen, piece...)
		})
		slices.Sort(seen)
		if !slices.Equal(seen, l) {
			t.Errorf("%d workers took %g", workers, brief(seen))
		}
		if n := all.sum.Specials().All; n != len(l) {
			t.Errorf("%d workers have %d of %d", workers, n, len(l))
		}
	}
}

// P23.2: each of many goroutines takes pieces that no other one takes.
func TestEachPieceOnce(t *testing.T) {
	p := pile{pieces: cut(make([]float64, 5000), 1)}
	taken := make([]int, 32)
	var all sync.WaitGroup
	for i := range taken {
		all.Go(func() {
			for piece, there := p.take(); there; piece, there = p.take() {
				taken[i] += len(piece)
			}
		})
	}
	all.Wait()
	sum := 0
	for _, n := range taken {
		sum += n
	}
	if piece, there := p.take(); sum != 5000 || there || piece != nil {
		t.Errorf("%d pieces; one more: %v", sum, there)
	}
}

// left is how many goroutines there are, when those that have told that they are done had time to go.
func left(atMost int) int {
	n := runtime.NumGoroutine()
	for i := 0; n > atMost && i < 1<<20; i++ {
		runtime.Gosched()
		n = runtime.NumGoroutine()
	}
	return n
}

// P23.4: no goroutine is left when a call has answered, whatever it was.
func TestNoneIsLeft(t *testing.T) {
	before := runtime.NumGoroutine()
	gone := func(what string) {
		t.Helper()
		if n := left(before); n > before {
			t.Fatalf("%s: %d goroutines; %d before", what, n, before)
		}
	}
	for _, l := range lists() {
		for _, workers := range []int{0, 1, 2, most, most + 1} {
			for _, size := range []int{0, 1, 2, longest} {
				for _, p := range []api.Policy{plain, strict, {NaN: 3}} {
					Sum(l, size, workers, order(0, 5, -1), 0, p)
					gone("Sum")
					Free(l, size, workers, 0, p)
					gone("Free")
					Var(l, size, workers, 1, 0, p)
					gone("Var")
				}
			}
			Turns(len(l), workers, order(0, 1))
			gone("Turns")
		}
	}
	for range 200 {
		Sum(nums(1, 2, 3), 1, most, order(63, 0), 0, plain)
		Free(nums(1, 2, 3), 1, most, 0, plain)
	}
	gone("many")
}

// P23.4: calls may go on at the same time, of the same list and the same schedule, too.
func TestSideBySide(t *testing.T) {
	d := dice(2341)
	l, order := d.list(300, (*dice).finite), d.order(60)
	var all sync.WaitGroup
	for i := range 24 {
		own := d.list(80, kinds()[i%len(kinds())])
		all.Go(func() {
			for n := range 5 {
				comes(t, l, way{1 + i, 1 + i, order}, n, plain)
				comes(t, own, way{1 + n, 2 + n, order}, n, policies()[i%9])
				turns(t, 50, 1+i, order)
			}
		})
	}
	all.Wait()
}

// P23.4: far more goroutines at a time than there are processors, and with one processor alone.
func TestFewProcessors(t *testing.T) {
	defer runtime.GOMAXPROCS(runtime.GOMAXPROCS(1))
	d := dice(2342)
	for _, n := range []int{1, 2, 8} {
		runtime.GOMAXPROCS(n)
		l := d.list(400, (*dice).any)
		for _, workers := range []int{1, 3, most} {
			everyWay(t, l[:100], way{3, workers, d.order(20)})
			comes(t, l, way{1, workers, d.order(20)}, 0, plain)
		}
	}
}
