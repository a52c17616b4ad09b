package left_test

import (
	"math"
	"math/rand"
	"slices"
	"testing"

	"postroad/api"
	"postroad/graph"
	"postroad/left"
)

func mapOf(n int, numbers ...int) api.Map {
	m := api.Map{N: n}
	for i := 0; i+2 < len(numbers); i += 3 {
		m.Arcs = append(m.Arcs, api.Arc{From: numbers[i], To: numbers[i+1], W: numbers[i+2]})
	}
	return m
}

func graphOf(t *testing.T, m api.Map) *graph.Graph {
	t.Helper()
	g := graph.New(m)
	if g == nil {
		t.Fatalf("graph.New(%v): nil", m)
	}
	return g
}

// model is the chapter word by word: what is asked is counted anew each time.
type model struct {
	n    int
	gone map[int]bool
	lost map[int]int
	ways map[[2]int]api.Way
}

// newModel goes over all arcs of the map: of those with the same ends the first
// of the least ones counts, and none that ends where it begins.
func newModel(m api.Map) *model {
	l := &model{n: m.N, gone: map[int]bool{}, lost: map[int]int{}, ways: map[[2]int]api.Way{}}
	for k, a := range m.Arcs {
		ends := [2]int{a.From, a.To}
		if old, is := l.ways[ends]; a.From != a.To && (!is || a.W < old.W) {
			l.ways[ends] = api.Way{W: a.W, Mid: api.None, Arc: k}
		}
	}
	return l
}

func (m *model) holds(v int) bool { return v >= 0 && v < m.n && !m.gone[v] }

func (m *model) places() []int {
	var l []int
	for v := range m.n {
		if m.holds(v) {
			l = append(l, v)
		}
	}
	return l
}

func (m *model) outs(v int) []int {
	var l []int
	for w := range m.n {
		if _, is := m.ways[[2]int{v, w}]; is {
			l = append(l, w)
		}
	}
	return l
}

func (m *model) ins(v int) []int {
	var l []int
	for u := range m.n {
		if _, is := m.ways[[2]int{u, v}]; is {
			l = append(l, u)
		}
	}
	return l
}

func (m *model) put(u int, v int, w int, mid int) bool {
	old, is := m.ways[[2]int{u, v}]
	if !m.holds(u) || !m.holds(v) || u == v || w < 0 || mid < 0 || is && old.W <= w {
		return false
	}
	m.ways[[2]int{u, v}] = api.Way{W: w, Mid: mid, Arc: api.None}
	return true
}

func (m *model) take(v int) bool {
	if !m.holds(v) {
		return false
	}
	for u := range m.n {
		_, out := m.ways[[2]int{v, u}]
		_, in := m.ways[[2]int{u, v}]
		if out || in {
			m.lost[u]++
		}
		delete(m.ways, [2]int{v, u})
		delete(m.ways, [2]int{u, v})
	}
	m.gone[v] = true
	return true
}

// fars is the least sum of ways from u to each place by no place that is
// without; all ways are tried until none gets less. A sum that is more than the
// greatest int is more than any most.
func (m *model) fars(u int, without int) map[int]int {
	l := map[int]int{}
	if !m.holds(u) || u == without {
		return l
	}
	l[u] = 0
	for shorter := true; shorter; {
		shorter = false
		for ends, way := range m.ways {
			d, is := l[ends[0]]
			if !is || ends[1] == without || d > math.MaxInt-way.W {
				continue
			}
			if old, is := l[ends[1]]; !is || d+way.W < old {
				l[ends[1]], shorter = d+way.W, true
			}
		}
	}
	return l
}

func (m *model) cost(v int) int {
	if !m.holds(v) {
		return 0
	}
	pairs, ins, outs := 0, m.ins(v), m.outs(v)
	for _, u := range ins {
		for _, w := range outs {
			if u != w {
				pairs++
			}
		}
	}
	return pairs - (len(ins) + len(outs)) + m.lost[v]
}

func wantList(t *testing.T, what string, v int, got []int, want []int) {
	t.Helper()
	if !slices.Equal(got, want) {
		t.Fatalf("%s of %d: %v, want %v", what, v, got, want)
	}
}

func wantWay(t *testing.T, l *left.Left, u int, v int, want api.Way, there bool) {
	t.Helper()
	if way, is := l.Way(u, v); way != want || is != there {
		t.Fatalf("Way(%d, %d): %v %v, want %v %v", u, v, way, is, want, there)
	}
}

func wantCost(t *testing.T, l *left.Left, v int, want int) {
	t.Helper()
	if c := l.Cost(v); c != want {
		t.Fatalf("Cost(%d): %d, want %d", v, c, want)
	}
}

func wantNear(t *testing.T, l *left.Left, u int, v int, without int, most int, want bool) {
	t.Helper()
	if is := l.Near(u, v, without, most); is != want {
		t.Fatalf("Near(%d, %d, %d, %d): %v", u, v, without, most, is)
	}
}

func wantPut(t *testing.T, l *left.Left, u int, v int, w int, mid int, want bool) {
	t.Helper()
	if is := l.Put(u, v, w, mid); is != want {
		t.Fatalf("Put(%d, %d, %d, %d): %v", u, v, w, mid, is)
	}
}

func wantTake(t *testing.T, l *left.Left, v int, want bool) {
	t.Helper()
	if is := l.Take(v); is != want {
		t.Fatalf("Take(%d): %v", v, is)
	}
}

// wantSame holds all that l tells, but for Near, against m; no place is asked,
// too.
func wantSame(t *testing.T, l *left.Left, m *model) {
	t.Helper()
	wantList(t, "Places", m.n, l.Places(), m.places())
	for u := -1; u <= m.n; u++ {
		wantList(t, "Outs", u, l.Outs(u), m.outs(u))
		wantList(t, "Ins", u, l.Ins(u), m.ins(u))
		wantCost(t, l, u, m.cost(u))
		for v := -1; v <= m.n; v++ {
			way, is := m.ways[[2]int{u, v}]
			wantWay(t, l, u, v, way, is)
		}
	}
}

// wantSameNear asks for most at the edge: as much as is needed, and 1 less.
func wantSameNear(t *testing.T, l *left.Left, m *model) {
	t.Helper()
	for without := -1; without <= m.n; without++ {
		for u := -1; u <= m.n; u++ {
			fars := m.fars(u, without)
			for v := -1; v <= m.n; v++ {
				d, is := fars[v]
				wantNear(t, l, u, v, without, math.MaxInt, is)
				wantNear(t, l, u, v, without, d, is)
				wantNear(t, l, u, v, without, d-1, false)
				wantNear(t, l, u, v, without, math.MinInt, false)
			}
		}
	}
}

func wantAll(t *testing.T, l *left.Left, m *model) {
	t.Helper()
	wantSame(t, l, m)
	wantSameNear(t, l, m)
}

func newBoth(t *testing.T, m api.Map) (*left.Left, *model) {
	t.Helper()
	l := left.New(graphOf(t, m))
	if l == nil {
		t.Fatalf("New of %v: nil", m)
	}
	return l, newModel(m)
}

func wrongPlaces(n int) []int {
	return []int{math.MinInt, math.MinInt32, -n - 1, -2, -1, n, n + 1, 2*n + 1, api.MaxVertex, math.MaxInt32, 1 << 32, math.MaxInt}
}

func randomMap(r *rand.Rand, most int) api.Map {
	m := api.Map{N: 1 + r.Intn(most)}
	long := []int{1, 2, 5, 100, api.MaxWeight + 1}[r.Intn(5)]
	for range r.Intn(4 * m.N) {
		m.Arcs = append(m.Arcs, api.Arc{From: r.Intn(m.N), To: r.Intn(m.N), W: r.Intn(long)})
	}
	return m
}

func TestExample(t *testing.T) {
	l := left.New(graphOf(t, mapOf(3, 0, 1, 2, 1, 2, 3)))
	wantCost(t, l, 1, -1)
	wantNear(t, l, 0, 2, 1, 99, false)
	wantNear(t, l, 0, 2, 7, 5, true)
	wantNear(t, l, 0, 2, 7, 4, false)
}

func TestNewOfNil(t *testing.T) {
	if l := left.New(nil); l != nil {
		t.Error("New of nil:", l)
	}
	if l := left.New(graph.New(api.Map{N: -1})); l != nil {
		t.Error("New of a graph that is none:", l)
	}
}

func TestNewOfSomeMaps(t *testing.T) {
	for _, m := range []api.Map{
		{}, {N: 1}, {N: 4}, {Arcs: []api.Arc{}},
		mapOf(1, 0, 0, 0), mapOf(2, 0, 0, 3, 1, 1, 2), // loops are no ways
		mapOf(2, 0, 1, 7), mapOf(2, 1, 0, 7), mapOf(2, 0, 1, 7, 1, 0, 8),
		mapOf(2, 0, 1, 5, 0, 1, 3, 0, 1, 3, 0, 1, 4), // the least alone, with its own number
		mapOf(2, 0, 1, 0, 1, 0, api.MaxWeight),
		mapOf(4, 3, 0, 1, 3, 1, 2, 3, 2, 3, 0, 3, 4, 2, 3, 5, 1, 3, 6), // falling and rising
		mapOf(4, 0, 1, 1, 0, 2, 1, 1, 3, 1, 2, 3, 1),
		mapOf(3, 0, 1, 0, 1, 2, 0, 2, 0, 0, 1, 1, 0),
	} {
		l, want := newBoth(t, m)
		wantAll(t, l, want)
	}
}

func TestNewOfRandomMaps(t *testing.T) {
	r := rand.New(rand.NewSource(1))
	for range 300 {
		l, want := newBoth(t, randomMap(r, 7))
		wantAll(t, l, want)
	}
}

// A Graph that graph.New did not make has no places.
func TestNewOfZeroGraph(t *testing.T) {
	l := left.New(&graph.Graph{})
	if l == nil {
		t.Fatal("nil")
	}
	wantAll(t, l, newModel(api.Map{}))
}

func TestWrongPlaces(t *testing.T) {
	l, m := newBoth(t, mapOf(3, 0, 1, 1, 1, 2, 2, 2, 0, 3))
	for _, v := range wrongPlaces(3) {
		wantList(t, "Outs", v, l.Outs(v), nil)
		wantList(t, "Ins", v, l.Ins(v), nil)
		wantCost(t, l, v, 0)
		wantTake(t, l, v, false)
		wantWay(t, l, v, v, api.Way{}, false)
		wantPut(t, l, v, v, 1, 1, false)
		wantNear(t, l, v, v, 1, math.MaxInt, false)
		for u := range 3 {
			wantWay(t, l, u, v, api.Way{}, false)
			wantWay(t, l, v, u, api.Way{}, false)
			wantPut(t, l, u, v, 0, 0, false)
			wantPut(t, l, v, u, 0, 0, false)
			wantNear(t, l, u, v, -7, math.MaxInt, false)
			wantNear(t, l, v, u, -7, math.MaxInt, false)
			wantNear(t, l, u, (u+2)%3, v, math.MaxInt, true) // without a place that is none
		}
	}
	wantAll(t, l, m)
}

func TestPutOfWhatMayNotBe(t *testing.T) {
	l, m := newBoth(t, mapOf(4, 0, 1, 5, 1, 2, 0, 3, 0, 1))
	l.Take(3)
	m.take(3)
	for _, p := range [][4]int{
		{0, 0, 1, 1}, {2, 2, 0, 0}, // u is v
		{0, 2, -1, 1}, {0, 2, math.MinInt, 1}, {0, 1, -1, 1}, // w is below 0
		{0, 2, 1, -1}, {0, 2, 1, math.MinInt}, {0, 1, 1, -1}, {0, 2, 1, api.None}, // mid is below 0
		{0, 1, 5, 2}, {0, 1, 6, 2}, {0, 1, math.MaxInt, 2}, {1, 2, 0, 0}, {1, 2, 1, 0}, // not less
		{0, 3, 1, 1}, {3, 0, 1, 1}, {3, 1, 0, 0}, {3, 3, 0, 0}, // of what is left no more
		{-1, 0, 1, 1}, {0, -1, 1, 1}, {4, 0, 1, 1}, {0, 4, 1, 1}, {4, 5, 1, 1},
	} {
		wantPut(t, l, p[0], p[1], p[2], p[3], false)
		wantAll(t, l, m)
	}
}

func TestPut(t *testing.T) {
	l, m := newBoth(t, mapOf(5, 0, 1, 5, 1, 2, 7, 4, 3, 2))
	l.Take(4)
	m.take(4)
	for _, p := range [][4]int{
		{0, 2, 12, 1}, {0, 2, 11, 3}, {0, 2, 0, 1}, // less again and again
		{0, 1, 4, 2},                                             // less than an arc, which is no way any more
		{1, 0, 0, 0}, {2, 0, math.MaxInt, 1}, {2, 0, 1 << 40, 2}, // there was none; as little, and as much, as may be
		{2, 1, 3, 4},                                                      // by a place that was taken
		{3, 0, 3, 3}, {0, 3, 3, 3}, {3, 1, 1, 99}, {3, 2, 1, math.MaxInt}, // no more is asked of mid
	} {
		wantPut(t, l, p[0], p[1], p[2], p[3], true)
		wantWay(t, l, p[0], p[1], api.Way{W: p[2], Mid: p[3], Arc: api.None}, true)
		wantPut(t, l, p[0], p[1], p[2], p[3]+1, false) // now it is as short
		m.put(p[0], p[1], p[2], p[3])
		wantAll(t, l, m)
	}
}

func TestTakeOfEach(t *testing.T) {
	for v := range 5 {
		l, m := newBoth(t, mapOf(5, 0, 1, 2, 1, 0, 3, 1, 2, 4, 0, 3, 1, 3, 2, 9, 2, 4, 0, 4, 1, 6, 4, 3, 6, 3, 4, 6))
		wantTake(t, l, v, true)
		m.take(v)
		wantAll(t, l, m)
		wantTake(t, l, v, false)
		wantAll(t, l, m)
	}
}

// What is taken is gone.
func TestTakenIsGone(t *testing.T) {
	l, m := newBoth(t, mapOf(3, 0, 1, 2, 1, 0, 2, 1, 2, 3, 2, 1, 3))
	wantTake(t, l, 1, true)
	m.take(1)
	for _, v := range []int{0, 1, 2} {
		wantWay(t, l, 1, v, api.Way{}, false)
		wantWay(t, l, v, 1, api.Way{}, false)
		wantPut(t, l, 1, v, 0, 0, false)
		wantPut(t, l, v, 1, 0, 0, false)
		wantNear(t, l, 1, v, 7, math.MaxInt, false)
		wantNear(t, l, v, 1, 7, math.MaxInt, false)
	}
	wantNear(t, l, 0, 2, 7, math.MaxInt, false)
	wantAll(t, l, m)
	for _, v := range []int{0, 2} {
		wantTake(t, l, v, true)
		m.take(v)
		wantAll(t, l, m)
	}
	wantList(t, "Places", 3, l.Places(), nil)
}

// Of each neighbour one more was lost: once, if ways led both to it and from
// it; no more by a way that is laid, or laid again; none of those further off.
func TestLost(t *testing.T) {
	l, m := newBoth(t, mapOf(6, 0, 1, 1, 1, 0, 1, 0, 2, 1, 3, 0, 1, 4, 5, 1))
	wantTake(t, l, 0, true)
	for v, cost := range []int{0, 1, 1, 1, -1, -1} {
		wantCost(t, l, v, cost)
	}
	m.take(0)
	wantSame(t, l, m)
	for _, ends := range [][2]int{{4, 1}, {1, 4}} {
		wantPut(t, l, ends[0], ends[1], 9, 5, true)
		wantPut(t, l, ends[0], ends[1], 8, 5, true)
		m.put(ends[0], ends[1], 8, 5)
		wantSame(t, l, m)
	}
	wantCost(t, l, 1, 0-2+1)
	wantTake(t, l, 4, true)
	wantCost(t, l, 1, 2)
	wantCost(t, l, 5, 1)
	wantCost(t, l, 2, 1)
	m.take(4)
	wantSame(t, l, m)
}

func TestCost(t *testing.T) {
	for _, c := range []struct {
		cost int
		m    api.Map
	}{
		{0, mapOf(1)},
		{0 - 1, mapOf(2, 0, 1, 1)},
		{0 - 1, mapOf(2, 1, 0, 1)},
		{0 - 2, mapOf(2, 1, 0, 1, 0, 1, 1)},                   // a pair of one with itself is none
		{0 - 3, mapOf(4, 0, 1, 1, 0, 2, 1, 0, 3, 1, 0, 0, 5)}, // out alone
		{1 - 3, mapOf(3, 0, 1, 1, 1, 0, 1, 2, 0, 1)},
		{4 - 4, mapOf(5, 1, 0, 1, 2, 0, 1, 0, 3, 1, 0, 4, 1)},
		{6 - 6, mapOf(4, 1, 0, 1, 2, 0, 1, 3, 0, 1, 0, 1, 1, 0, 2, 1, 0, 3, 1)},
		{9 - 6, mapOf(7, 1, 0, 1, 2, 0, 1, 3, 0, 1, 0, 4, 1, 0, 5, 1, 0, 6, 1)},
		{11 - 7, mapOf(8, 1, 0, 0, 2, 0, 0, 3, 0, 0, 4, 0, 0, 0, 5, 0, 0, 6, 0, 0, 1, 0, 0, 5, 7)}, // 1 is both, two arcs to 5 are one way
	} {
		wantCost(t, left.New(graphOf(t, c.m)), 0, c.cost)
	}
}

func TestNear(t *testing.T) {
	l, m := newBoth(t, mapOf(6, 0, 1, 2, 1, 2, 3, 0, 3, 1, 3, 2, 9, 2, 4, 0, 4, 2, 0, 2, 5, 4))
	for _, q := range []struct {
		u, v, without, most int
		want                bool
	}{
		{0, 2, -1, 5, true}, {0, 2, -1, 4, false}, // exactly most
		{0, 2, 1, 10, true}, {0, 2, 1, 9, false}, // around the nearer one
		{0, 2, 3, 5, true}, {0, 2, 5, 5, true}, // without one that is of no use
		{0, 5, 2, math.MaxInt, false},                                    // all lead by it
		{0, 2, 0, 99, false}, {0, 2, 2, 99, false}, {0, 0, 0, 99, false}, // an end is without
		{0, 0, 1, 0, true}, {0, 0, 1, -1, false}, {5, 5, -1, 0, true}, {5, 5, -1, math.MinInt, false}, // no ways are needed
		{2, 4, -1, 0, true}, {4, 2, -1, 0, true}, {2, 4, -1, -1, false}, // ways of 0
		{1, 0, -1, math.MaxInt, false}, {5, 2, -1, math.MaxInt, false}, // against the ways
		{0, 6, -1, 99, false}, {-1, 0, 3, 99, false}, {6, 6, -1, 99, false}, {-1, -1, 3, 99, false},
	} {
		wantNear(t, l, q.u, q.v, q.without, q.most, q.want)
	}
	wantAll(t, l, m)
	l.Put(0, 2, 4, 1)
	wantNear(t, l, 0, 2, 1, 4, true) // a way that leads by 1 leads around it, too, where it is laid
	l.Take(3)
	wantNear(t, l, 0, 2, 1, 3, false)
	wantNear(t, l, 0, 3, 1, 99, false)
}

// Sums of ways may be more than the greatest int: then they are more than most.
func TestNearOfGreatSums(t *testing.T) {
	l, m := newBoth(t, mapOf(5))
	for _, p := range [][3]int{{0, 1, math.MaxInt}, {1, 2, math.MaxInt}, {2, 3, 1}, {3, 4, math.MaxInt - 1}, {4, 0, 2}} {
		wantPut(t, l, p[0], p[1], p[2], 0, true)
		m.put(p[0], p[1], p[2], 0)
	}
	wantNear(t, l, 0, 1, -1, math.MaxInt, true)
	wantNear(t, l, 0, 1, -1, math.MaxInt-1, false)
	wantNear(t, l, 0, 2, -1, math.MaxInt, false)
	wantNear(t, l, 1, 3, -1, math.MaxInt, false)
	wantNear(t, l, 2, 4, -1, math.MaxInt, true)
	wantNear(t, l, 2, 4, -1, math.MaxInt-1, false)
	wantNear(t, l, 2, 0, -1, math.MaxInt, false)
	for most := -3; most < 3; most++ {
		wantNear(t, l, 0, 2, -1, most, false)
		wantNear(t, l, 2, 3, -1, most, most >= 1)
	}
	wantAll(t, l, m)
}

// Rings of noughts must not be gone round without end.
func TestNearOfNoughts(t *testing.T) {
	l, m := newBoth(t, mapOf(5, 0, 1, 0, 1, 2, 0, 2, 0, 0, 2, 1, 0, 1, 0, 0, 3, 4, 0, 4, 3, 0, 3, 0, 0))
	wantNear(t, l, 0, 2, -1, 0, true)
	wantNear(t, l, 0, 3, -1, math.MaxInt, false)
	wantAll(t, l, m)
}

// needed is what has to be laid, so that it stays how far it is without v.
func needed(l *left.Left, v int) [][3]int {
	var all [][3]int
	for _, u := range l.Ins(v) {
		for _, w := range l.Outs(v) {
			a, _ := l.Way(u, v)
			b, _ := l.Way(v, w)
			if u != w && !l.Near(u, w, v, a.W+b.W) {
				all = append(all, [3]int{u, w, a.W + b.W})
			}
		}
	}
	return all
}

// How far it is stays, whichever places are taken out (P4), and each way is
// lower than what it leads by: that was taken ahead of both its ends.
func TestHowFarItIsStays(t *testing.T) {
	r := rand.New(rand.NewSource(4))
	for range 150 {
		l, first := newBoth(t, randomMap(r, 9))
		for _, v := range r.Perm(first.n) {
			for _, p := range needed(l, v) {
				wantPut(t, l, p[0], p[1], p[2], v, true)
			}
			wantTake(t, l, v, true)
			places := l.Places()
			for _, s := range places {
				fars := first.fars(s, -1)
				for _, e := range places {
					d, is := fars[e]
					wantNear(t, l, s, e, v, math.MaxInt, is)
					wantNear(t, l, s, e, v, d, is)
					wantNear(t, l, s, e, v, d-1, false)
					if way, is := l.Way(s, e); is && way.Mid != api.None && slices.Contains(places, way.Mid) {
						t.Fatalf("Way(%d, %d) leads by %d, which is left", s, e, way.Mid)
					}
				}
			}
		}
	}
}

// doOne does the same to l and to m, and holds the answers against each other.
func doOne(t *testing.T, l *left.Left, m *model, op byte, u int, v int, w int, mid int) {
	t.Helper()
	switch op % 8 {
	default:
		wantPut(t, l, u, v, w, mid, m.put(u, v, w, mid))
	case 5:
		wantTake(t, l, u, m.take(u))
	case 6, 7:
		d, is := m.fars(u, mid)[v]
		wantNear(t, l, u, v, mid, w, is && d <= w)
	}
	wantSame(t, l, m)
}

func TestAnyCallsInAnyOrder(t *testing.T) {
	r := rand.New(rand.NewSource(5))
	for range 300 {
		l, m := newBoth(t, randomMap(r, 8))
		long := []int{3, 30, api.MaxWeight, math.MaxInt}[r.Intn(4)]
		for range 40 {
			u, v, mid := r.Intn(m.n+2)-1, r.Intn(m.n+2)-1, r.Intn(m.n+2)-1
			doOne(t, l, m, byte(r.Intn(256)), u, v, r.Intn(long)-1, mid)
		}
		wantSameNear(t, l, m)
	}
}

func FuzzAnyCalls(f *testing.F) {
	f.Add(byte(3), []byte{1, 2, 2, 2, 3, 3}, []byte{6, 1, 3, 99, 2, 0, 1, 3, 5, 2, 5, 2, 0, 0, 0})
	f.Add(byte(5), []byte{1, 2, 2, 2, 1, 3, 2, 3, 4, 1, 4, 1}, []byte{0, 1, 3, 6, 2, 5, 2, 0, 0, 0, 7, 1, 3, 6, 0})
	f.Add(byte(0), []byte{}, []byte{0, 0, 0, 0, 0, 5, 0, 0, 0, 0})
	f.Fuzz(func(t *testing.T, n byte, arcs []byte, ops []byte) {
		m := api.Map{N: int(n % 16)}
		for ; m.N > 0 && len(arcs) >= 3; arcs = arcs[3:] {
			m.Arcs = append(m.Arcs, api.Arc{From: int(arcs[0]) % m.N, To: int(arcs[1]) % m.N, W: int(arcs[2])})
		}
		l, want := newBoth(t, m)
		for ; len(ops) >= 5; ops = ops[5:] {
			doOne(t, l, want, ops[0], int(ops[1])-1, int(ops[2])-1, int(int8(ops[3])), int(ops[4])-1)
		}
	})
}

func TestNilAndZero(t *testing.T) {
	var none *left.Left
	for _, l := range []*left.Left{none, {}} {
		wantList(t, "Places", 0, l.Places(), nil)
		for _, v := range append(wrongPlaces(0), 0, 1) {
			wantList(t, "Outs", v, l.Outs(v), nil)
			wantList(t, "Ins", v, l.Ins(v), nil)
			wantCost(t, l, v, 0)
			wantTake(t, l, v, false)
			for _, u := range []int{0, 1, v} {
				wantWay(t, l, u, v, api.Way{}, false)
				wantPut(t, l, u, v, 1, 1, false)
				wantNear(t, l, u, v, 3, math.MaxInt, false)
			}
		}
	}
}

// R2: a graph that is handed in stays as it was.
func TestGraphStays(t *testing.T) {
	m := mapOf(4, 0, 1, 2, 1, 2, 3, 2, 0, 4, 2, 3, 1, 3, 1, 1)
	g := graphOf(t, m)
	before := g.Print()
	var outs [][]api.Edge
	for v := range m.N {
		outs = append(outs, g.Out(v))
	}
	l := left.New(g)
	l.Put(0, 2, 1, 1)
	l.Put(0, 1, 1, 3)
	for v := range m.N {
		l.Take(v)
	}
	if g.Print() != before || len(g.Kept()) != len(m.Arcs) {
		t.Error("the graph is another one")
	}
	for v := range m.N {
		if !slices.Equal(g.Out(v), outs[v]) {
			t.Errorf("Out(%d): %v, was %v", v, g.Out(v), outs[v])
		}
	}
}

// R4: two of one graph know nothing of one another.
func TestTwoOfOneGraph(t *testing.T) {
	m := mapOf(4, 0, 1, 2, 1, 2, 3, 2, 0, 4, 2, 3, 1, 3, 1, 1)
	g := graphOf(t, m)
	a, b := left.New(g), left.New(g)
	ma, mb := newModel(m), newModel(m)
	a.Take(1)
	ma.take(1)
	a.Put(0, 2, 1, 1)
	ma.put(0, 2, 1, 1)
	wantAll(t, b, mb)
	b.Put(1, 0, 9, 2)
	mb.put(1, 0, 9, 2)
	b.Take(3)
	mb.take(3)
	wantAll(t, a, ma)
	wantAll(t, b, mb)
}

// R2: what comes out is new memory, and so is the room behind it.
func TestAnswersAreNew(t *testing.T) {
	l, m := newBoth(t, mapOf(5, 0, 1, 1, 0, 2, 1, 0, 3, 1, 1, 0, 1, 2, 0, 1, 3, 0, 1, 4, 0, 1))
	for _, ask := range []func() []int{l.Places, func() []int { return l.Outs(0) }, func() []int { return l.Ins(0) }} {
		one, two := ask(), ask()
		was := slices.Clone(two)
		one = one[:cap(one)]
		for i := range one {
			one[i] = -5
		}
		wantList(t, "what came out", 0, two, was)
		wantAll(t, l, m)
	}
}

// The order in which a map tells its keys must not be seen: what is asked again
// is answered again.
func TestAskedAgain(t *testing.T) {
	m := api.Map{N: 40}
	for v := 1; v < m.N; v++ {
		m.Arcs = append(m.Arcs, api.Arc{From: 0, To: v, W: v}, api.Arc{From: v, To: 0, W: v}, api.Arc{From: v, To: v % 39, W: 1})
	}
	l, want := newBoth(t, m)
	for range 50 {
		wantSame(t, l, want)
		wantNear(t, l, 5, 20, 6, 25, true)
		wantNear(t, l, 5, 20, 0, math.MaxInt, false)
	}
}

func TestAsManyPlacesAsMayBe(t *testing.T) {
	const last = api.MaxVertex - 1
	l := left.New(graphOf(t, mapOf(api.MaxVertex, last, 0, api.MaxWeight, 0, 7, 1, 7, last, 2)))
	wantTake(t, l, 7, true)
	wantPut(t, l, 0, last, 3, 7, true)
	wantList(t, "Outs", last, l.Outs(last), []int{0})
	wantList(t, "Ins", last, l.Ins(last), []int{0})
	wantCost(t, l, last, 0-2+1)
	wantNear(t, l, 0, last, 7, 3, true)
	wantNear(t, l, last, 0, 7, api.MaxWeight-1, false)
	places := l.Places()
	if len(places) != api.MaxVertex-1 || places[6] != 6 || places[7] != 8 || places[last-1] != last {
		t.Errorf("%d places", len(places))
	}
}

// A place that all ways lead to, or from: so many that a way of asking each pair
// would not end soon.
func TestStar(t *testing.T) {
	const n = 100000
	m := api.Map{N: n + 1}
	for v := 1; v <= n; v++ {
		m.Arcs = append(m.Arcs, api.Arc{From: 0, To: v, W: v}, api.Arc{From: v, To: 0, W: v})
	}
	l := left.New(graphOf(t, m))
	wantCost(t, l, 0, n*(n-1)-2*n)
	wantNear(t, l, n, n-1, 1, 2*n-1, true)
	wantNear(t, l, n, n-1, 1, 2*n-2, false)
	wantNear(t, l, n, n-1, 0, math.MaxInt, false)
	for v := 2; v <= n; v++ {
		wantTake(t, l, v, true)
	}
	wantList(t, "Outs", 0, l.Outs(0), []int{1})
	wantCost(t, l, 0, 0-2+n-1)
	wantTake(t, l, 0, true)
	wantCost(t, l, 1, 1)
	wantList(t, "Places", n+1, l.Places(), []int{1})
}

// A long row of places: taken from the middle on, each with a way laid over it.
func TestLongRow(t *testing.T) {
	const n = 20000
	m := api.Map{N: n}
	for v := 1; v < n; v++ {
		m.Arcs = append(m.Arcs, api.Arc{From: v - 1, To: v, W: 1})
	}
	l := left.New(graphOf(t, m))
	wantNear(t, l, 0, n-1, -1, n-1, true)
	wantNear(t, l, 0, n-1, -1, n-2, false)
	wantNear(t, l, 0, n-1, n/2, math.MaxInt, false)
	for v := 1; v < n-1; v++ {
		wantPut(t, l, 0, v+1, v+1, v, true)
		wantTake(t, l, v, true)
	}
	wantList(t, "Places", n, l.Places(), []int{0, n - 1})
	wantWay(t, l, 0, n-1, api.Way{W: n - 1, Mid: n - 2, Arc: api.None}, true)
	wantCost(t, l, 0, -1+n-2)
}

// So many places that a way of making room for all of them at each search would
// not end soon.
func TestNearAmongMany(t *testing.T) {
	const n = 1 << 19
	m := api.Map{N: n}
	for v := 1; v < n; v++ {
		m.Arcs = append(m.Arcs, api.Arc{From: v - 1, To: v, W: 1}, api.Arc{From: v, To: v - 1, W: 1})
	}
	l := left.New(graphOf(t, m))
	for v := 3; v < n-3; v += 9 {
		wantNear(t, l, v-2, v+3, -1, 5, true)
		wantNear(t, l, v-2, v+3, -1, 4, false)
		wantNear(t, l, v-2, v+3, v, 9, false)
	}
	wantNear(t, l, n-1, 0, -1, n-1, true)
	wantNear(t, l, n-1, 0, -1, n-2, false)
}

// Many places are reached at once, from a place that all ways leave.
func TestNearOfAWideSearch(t *testing.T) {
	const n = 3000
	m := api.Map{N: n + 2}
	for v := 1; v <= n; v++ {
		m.Arcs = append(m.Arcs, api.Arc{From: 0, To: v, W: n - v}, api.Arc{From: v, To: n + 1, W: 3 * v})
	}
	l := left.New(graphOf(t, m))
	wantNear(t, l, 0, n+1, -1, n+2, true) // by 1: n - 1 and 3
	wantNear(t, l, 0, n+1, -1, n+1, false)
	wantNear(t, l, 0, n+1, 1, n+4, true) // by 2: n - 2 and 6
	wantNear(t, l, 0, n+1, 1, n+3, false)
}
