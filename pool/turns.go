package pool

import "sync"

// taker is the worker whose turn it is by a schedule.
func taker(turn, workers int, order []int) int {
	if len(order) == 0 {
		return 0
	}
	left := order[turn%len(order)] % workers
	if left < 0 {
		return left + workers
	}
	return left
}

// worker is one that waits for its turns, on a channel of its own.
type worker struct {
	turns chan int
	has   held
}

// byTurns hands each piece to the worker whose turn it is; each has in the end what it took.
func byTurns(pieces [][]float64, workers int, order []int) []worker {
	crew := make([]worker, workers)
	done := make(chan struct{})
	var joined sync.WaitGroup
	joined.Add(workers)
	for i := range crew {
		crew[i] = worker{turns: make(chan int), has: nothing()}
		go crew[i].work(pieces, done, &joined)
	}
	for turn := range pieces {
		crew[taker(turn, workers, order)].turns <- turn
	}
	close(done)
	joined.Wait()
	return crew
}

// work takes pieces till all is done. A turn is handed over when its worker receives it, and done is closed behind the last one: the two are never ready at once.
func (w worker) work(pieces [][]float64, done <-chan struct{}, joined *sync.WaitGroup) {
	defer joined.Done()
	for {
		select {
		case turn := <-w.turns:
			w.has.add(pieces[turn])
		case <-done:
			return
		}
	}
}

// together is what they all have.
func together(crew []worker) held {
	all := nothing()
	for _, w := range crew {
		all.put(w.has)
	}
	return all
}
