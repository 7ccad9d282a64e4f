package slide

import (
	"testing"
	"time"

	"steelyard/api"
)

// P20.4: no call goes through the list: what is written over behind a Slide's back, in the midst of what it holds, is not seen by what it tells, nor by a Push.
func TestTheListIsNotGoneThrough(t *testing.T) {
	d := dice(204)
	for _, size := range []int{3, 4, 10, 500} {
		s, other := New(size), New(size)
		for _, x := range d.list(2*size+size/2, (*dice).finite) {
			s.Push(x)
			other.Push(x)
		}
		keep := map[int]bool{s.list.start: true, s.list.place(1): true}
		for _, e := range []*edge{&s.low, &s.high} {
			for i := range e.places.count {
				keep[e.places.room[e.places.place(i)]] = true
			}
		}
		for place := range s.list.room {
			if !keep[place] {
				s.list.room[place] = hole
			}
		}
		for range 2 {
			alike(t, "written over", s, other)
			s.Push(0.5)
			other.Push(0.5)
		}
	}
}

// P20.4: of Least and Most no more is kept than the list has, however long it goes on.
func TestEdgesAreNoLonger(t *testing.T) {
	d := dice(205)
	for _, kind := range kinds() {
		for _, size := range []int{1, 2, 5, 40} {
			s := New(size)
			for _, x := range d.list(6*size+20, kind) {
				s.Push(x)
				if n := max(s.low.places.count, s.high.places.count); n > s.Len() {
					t.Fatalf("%d places of %d", n, s.Len())
				}
				if len(s.list.room) != size || len(s.low.places.room) != size || len(s.high.places.room) != size {
					t.Fatal("there is more room than the size asks for")
				}
			}
		}
	}
}

// took is the shortest time of several tries for many Pushes, and asks behind each, of one size.
func took(size int) time.Duration {
	best := time.Hour
	for range 5 {
		d := dice(206)
		s := pushed(size, d.list(size, func(d *dice) float64 { return d.sized(-30, 30) })...)
		start := time.Now()
		for range 2000 {
			s.Push(d.sized(-30, 30))
			s.Sum(api.Even, plain)
			s.Mean(api.Even, plain)
			s.Var(1, api.Even, plain)
			s.Least()
			s.Most()
		}
		best = min(best, time.Since(start))
	}
	return best
}

// P20.4: a great window takes no more steps than a small one. (One that goes through the list takes some thousand times as long.)
func TestStepsAreFew(t *testing.T) {
	small, great := took(8), took(widest)
	if great > 20*small {
		t.Errorf("windows of 8: %v, of %d: %v", small, widest, great)
	}
}

// P20.4: Slides have nothing in common: of several at once each tells its own list.
func TestNothingInCommon(t *testing.T) {
	d := dice(207)
	var group []*twin
	for i := range 12 {
		group = append(group, pairUp(t, 1+i%5))
	}
	for i, x := range d.list(400, (*dice).any) {
		group[d.below(len(group))].push(x)
		for _, w := range group {
			w.ends()
			w.asks(i%5, plain)
		}
	}
	for _, w := range group {
		w.tells()
	}
}
