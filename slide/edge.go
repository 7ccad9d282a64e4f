package slide

import (
	"steelyard/api"
	"steelyard/bits"
)

// edge holds the places of those numbers that none behind them outdoes, in their order. What one that came later outdoes goes out of the list ahead of it, and is never told again; so the first of those that are left outdoes the whole list.
type edge struct {
	places ring[int]
	side   int // how one that outdoes another stands to it: -1 for the least, 1 for the greatest
}

func newEdge(size, side int) edge { return edge{places: newRing[int](size), side: side} }

// enter takes a place of the list up, whose number came in last. A NaN outdoes nothing, and has none.
func (e *edge) enter(list *ring[float64], place int) {
	x := list.room[place]
	if bits.Class(x) == api.Odd {
		return
	}
	for e.places.count > 0 && bits.Order(list.room[e.places.last()], x) != e.side {
		e.places.dropLast()
	}
	e.places.push(place)
}

// leave gives the place of the list's first one up, which goes.
func (e *edge) leave(place int) {
	if e.places.count > 0 && e.places.first() == place {
		e.places.dropFirst()
	}
}

// told is the number that outdoes the whole list.
func (e *edge) told(list *ring[float64]) (float64, api.Errno) {
	switch {
	case list.count == 0:
		return 0, api.ErrNone
	case e.places.count == 0:
		return bits.NaN(), api.OK
	}
	return list.room[e.places.first()], api.OK
}
