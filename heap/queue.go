package heap

import "cmp"

type entry[K cmp.Ordered] struct {
	key K
	id  int
}

// before orders by the id where keys are equal, so that the answers do not
// hang on how the tree came about.
func (e entry[K]) before(other entry[K]) bool {
	return e.key < other.key || e.key == other.key && e.id < other.id
}

// queue is a binary tree, laid out in a list: the two below spot are at
// 2*spot+1 and 2*spot+2, and neither of them is before it.
type queue[K cmp.Ordered] struct {
	tree  []entry[K]
	spots []int // of each id: 1 more than its spot in the tree; 0, if it is not in
}

func (q *queue[K]) knows(id int) bool { return id >= 0 && id < len(q.spots) }

func (q *queue[K]) holds(id int) bool { return q.knows(id) && q.spots[id] != 0 }

func (q *queue[K]) size() int { return len(q.tree) }

func (q *queue[K]) at(spot int) entry[K] { return q.tree[spot] }

func (q *queue[K]) spot(id int) int { return q.spots[id] - 1 }

// put takes e in, in place of the entry with its id if there is one.
func (q *queue[K]) put(e entry[K]) {
	if !q.holds(e.id) {
		q.tree = append(q.tree, e)
		q.spots[e.id] = len(q.tree)
	}
	q.settle(q.spot(e.id), e)
}

// remove takes id out. The last entry fills the gap: it comes from another
// branch perhaps, so it may have to go up as well as down.
func (q *queue[K]) remove(id int) {
	gap, end := q.spot(id), len(q.tree)-1
	last := q.tree[end]
	q.tree = q.tree[:end]
	q.spots[id] = 0
	if gap < end {
		q.settle(gap, last)
	}
}

// empty looks at what is in alone, so that a great queue with little in it is
// emptied quickly.
func (q *queue[K]) empty() {
	for _, e := range q.tree {
		q.spots[e.id] = 0
	}
	q.tree = q.tree[:0]
}

func (q *queue[K]) lay(spot int, e entry[K]) {
	q.tree[spot] = e
	q.spots[e.id] = spot + 1
}

// settle lays e where it belongs, on the way up or down from a spot whose own
// entry is no longer needed.
func (q *queue[K]) settle(spot int, e entry[K]) {
	spot = q.wayUp(spot, e)
	spot = q.wayDown(spot, e)
	q.lay(spot, e)
}

func (q *queue[K]) wayUp(spot int, e entry[K]) int {
	for spot > 0 {
		above := (spot - 1) / 2
		if !e.before(q.tree[above]) {
			break
		}
		q.lay(spot, q.tree[above])
		spot = above
	}
	return spot
}

func (q *queue[K]) wayDown(spot int, e entry[K]) int {
down:
	for {
		below := 2*spot + 1
		switch {
		case below >= len(q.tree):
			break down
		case below+1 < len(q.tree) && q.tree[below+1].before(q.tree[below]):
			below++
		}
		if !q.tree[below].before(e) {
			break down
		}
		q.lay(spot, q.tree[below])
		spot = below
	}
	return spot
}
