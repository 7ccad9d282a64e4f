package pool

import (
	"sync"
	"sync/atomic"
)

// pile is what the workers share that take pieces as they like.
type pile struct {
	pieces [][]float64
	next   atomic.Int64
	joined sync.WaitGroup
	door   sync.Mutex
	all    held // behind the door, till all are joined
}

// freely has each worker add pieces, in this way, to what it has, and puts together what they all have.
func freely(pieces [][]float64, workers int, add func(h held, piece []float64)) held {
	p := pile{pieces: pieces, all: nothing()}
	p.joined.Add(workers)
	for range workers {
		go p.work(add)
	}
	p.joined.Wait()
	return p.all
}

func (p *pile) work(add func(h held, piece []float64)) {
	defer p.joined.Done()
	has := nothing()
	for piece, there := p.take(); there; piece, there = p.take() {
		add(has, piece)
	}
	p.put(has)
}

// take is the next piece, which nobody has taken; false, if there is none.
func (p *pile) take() ([]float64, bool) {
	i := int(p.next.Add(1)) - 1
	if i >= len(p.pieces) {
		return nil, false
	}
	return p.pieces[i], true
}

func (p *pile) put(has held) {
	p.door.Lock()
	defer p.door.Unlock()
	p.all.put(has)
}
