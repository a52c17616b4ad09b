package left

import (
	"postroad/api"
	"postroad/heap"
)

// For how many places a front has room at first, and how many times as many at
// each growth.
const (
	fewPlaces = 1 << 4
	growth    = 1 << 2
)

// front is the places that a search has reached. Most searches end near by, so
// the heap has room for as many as were reached, by the order in which they
// were, and not for all places.
type front struct {
	heap    *heap.Heap
	room    int
	numbers map[int]int // of each place that was reached
	reached []reached   // by these numbers
}

type reached struct {
	place int
	far   int
}

func newFront() *front {
	return &front{heap: heap.New(fewPlaces), room: fewPlaces, numbers: map[int]int{}}
}

// reach lays a place in the heap, unless it was reached by no more than d.
func (f *front) reach(place int, d int) {
	k, is := f.numbers[place]
	switch {
	case !is:
		k = len(f.reached)
		f.numbers[place] = k
		f.reached = append(f.reached, reached{place: place, far: d})
	case d >= f.reached[k].far:
		return
	}
	f.reached[k].far = d
	if k >= f.room {
		f.grow()
	}
	f.heap.Set(k, d)
}

// pop takes out the place that is nearest.
func (f *front) pop() (int, int, bool) {
	k, d, is := f.heap.Pop()
	if !is {
		return 0, 0, false
	}
	return f.reached[k].place, d, true
}

func (f *front) grow() {
	f.room = min(f.room*growth, api.MaxVertex) // of more no heap is made, nor has a graph more
	wider := heap.New(f.room)
	for k := range f.reached {
		if d, is := f.heap.Key(k); is {
			wider.Set(k, d)
		}
	}
	f.heap = wider
}
