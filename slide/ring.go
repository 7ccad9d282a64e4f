package slide

// ring holds items in their order, at most as many as it has room for: one comes in at its end, the first or the last one goes, and none of the others is moved.
type ring[T float64 | int] struct {
	room  []T
	start int
	count int
}

func newRing[T float64 | int](size int) ring[T] { return ring[T]{room: make([]T, size)} }

func (r *ring[T]) full() bool { return r.count == len(r.room) }

// place is where the i-th one stands: it stands there till it goes.
func (r *ring[T]) place(i int) int { return (r.start + i) % len(r.room) }

func (r *ring[T]) first() T { return r.room[r.start] }

func (r *ring[T]) last() T { return r.room[r.place(r.count-1)] }

// push puts one at the end, where there is room, and answers its place.
func (r *ring[T]) push(x T) int {
	place := r.place(r.count)
	r.room[place] = x
	r.count++
	return place
}

func (r *ring[T]) dropFirst() {
	r.start = r.place(1)
	r.count--
}

func (r *ring[T]) dropLast() { r.count-- }
