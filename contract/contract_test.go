package contract_test

import (
	"math"
	"math/rand"
	"slices"
	"testing"

	"postroad/api"
	"postroad/contract"
	"postroad/graph"
	"postroad/left"
)

func mapOf(n int, numbers ...int) api.Map {
	m := api.Map{N: n}
	for i := 0; i+2 < len(numbers); i += 3 {
		m.Arcs = append(m.Arcs, api.Arc{From: numbers[i], To: numbers[i+1], W: numbers[i+2]})
	}
	return m
}

func graphOf(t *testing.T, m api.Map) *graph.Graph {
	t.Helper()
	g := graph.New(m)
	if g == nil {
		t.Fatalf("graph.New(%v): nil", m)
	}
	return g
}

func arc(u int, v int, w int, k int) api.Short {
	return api.Short{From: u, To: v, Way: api.Way{W: w, Mid: api.None, Arc: k}}
}

func by(u int, v int, w int, mid int) api.Short {
	return api.Short{From: u, To: v, Way: api.Way{W: w, Mid: mid, Arc: api.None}}
}

// model is the chapter word by word: which places are left, the ways between
// them, and what was lost; all else is counted anew each time.
type model struct {
	n    int
	gone map[int]bool
	lost map[int]int
	ways map[[2]int]api.Way
}

func newModel(m api.Map) *model {
	l := &model{n: m.N, gone: map[int]bool{}, lost: map[int]int{}, ways: map[[2]int]api.Way{}}
	for k, a := range m.Arcs {
		ends := [2]int{a.From, a.To}
		if old, is := l.ways[ends]; a.From != a.To && (!is || a.W < old.W) {
			l.ways[ends] = api.Way{W: a.W, Mid: api.None, Arc: k}
		}
	}
	return l
}

func (m *model) holds(v int) bool { return v >= 0 && v < m.n && !m.gone[v] }

func (m *model) way(u int, v int) (api.Short, bool) {
	way, is := m.ways[[2]int{u, v}]
	return api.Short{From: u, To: v, Way: way}, is
}

func (m *model) outs(v int) []api.Short {
	var l []api.Short
	for w := range m.n {
		if s, is := m.way(v, w); is {
			l = append(l, s)
		}
	}
	return l
}

func (m *model) ins(v int) []api.Short {
	var l []api.Short
	for u := range m.n {
		if s, is := m.way(u, v); is {
			l = append(l, s)
		}
	}
	return l
}

func (m *model) cost(v int) int {
	pairs, ins, outs := 0, m.ins(v), m.outs(v)
	for _, in := range ins {
		for _, out := range outs {
			if in.From != out.To {
				pairs++
			}
		}
	}
	return pairs - len(ins) - len(outs) + m.lost[v]
}

func (m *model) next() (int, bool) {
	next, is := 0, false
	for v := range m.n {
		if m.holds(v) && (!is || m.cost(v) < m.cost(next)) {
			next, is = v, true
		}
	}
	return next, is
}

// fars is the least sum of ways from u to each place by no place that is
// without; all ways are tried until none gets less. No way is so long that a
// sum is more than the greatest int.
func (m *model) fars(u int, without int) map[int]int {
	l := map[int]int{u: 0}
	for shorter := true; shorter; {
		shorter = false
		for ends, way := range m.ways {
			d, is := l[ends[0]]
			if !is || ends[1] == without {
				continue
			}
			if old, is := l[ends[1]]; !is || d+way.W < old {
				l[ends[1]], shorter = d+way.W, true
			}
		}
	}
	return l
}

func (m *model) needed(v int) []api.Short {
	var l []api.Short
	for _, in := range m.ins(v) {
		fars := m.fars(in.From, v)
		for _, out := range m.outs(v) {
			far, is := fars[out.To]
			if d := in.Way.W + out.Way.W; in.From != out.To && (!is || far > d) {
				l = append(l, by(in.From, out.To, d, v))
			}
		}
	}
	return l
}

func (m *model) put(s api.Short) {
	if old, is := m.way(s.From, s.To); !is || old.Way.W > s.Way.W {
		m.ways[[2]int{s.From, s.To}] = s.Way
	}
}

func (m *model) take(v int) {
	for u := range m.n {
		_, out := m.way(v, u)
		_, in := m.way(u, v)
		if out || in {
			m.lost[u]++
		}
		delete(m.ways, [2]int{v, u})
		delete(m.ways, [2]int{u, v})
	}
	m.gone[v] = true
}

func (m *model) build() api.Hier {
	h := api.Hier{Rank: make([]int, m.n)}
	for v, is := m.next(); is; v, is = m.next() {
		h.Rank[v] = len(m.gone)
		for _, s := range m.needed(v) {
			m.put(s)
		}
		h.Ways = append(h.Ways, m.outs(v)...)
		h.Ways = append(h.Ways, m.ins(v)...)
		m.take(v)
	}
	return h
}

func wantHier(t *testing.T, got api.Hier, want api.Hier) {
	t.Helper()
	if !slices.Equal(got.Rank, want.Rank) {
		t.Fatalf("Rank: %v, want %v", got.Rank, want.Rank)
	}
	if !slices.Equal(got.Ways, want.Ways) {
		t.Fatalf("Ways:\n%v, want\n%v", got.Ways, want.Ways)
	}
}

// wantOrder holds Order against the ranks, place by place.
func wantOrder(t *testing.T, g *graph.Graph, rank []int) {
	t.Helper()
	order := contract.Order(g)
	if len(order) != len(rank) {
		t.Fatalf("Order: %v, of %d places", order, len(rank))
	}
	for r, v := range order {
		if v < 0 || v >= len(rank) || rank[v] != r {
			t.Fatalf("Order: %v, Rank: %v", order, rank)
		}
	}
}

func wantNeeded(t *testing.T, l *left.Left, v int, want ...api.Short) {
	t.Helper()
	if got := contract.Needed(l, v); !slices.Equal(got, want) {
		t.Fatalf("Needed of %d: %v, want %v", v, got, want)
	}
}

func wantNext(t *testing.T, l *left.Left, want int, there bool) {
	t.Helper()
	if v, is := contract.Next(l); v != want || is != there {
		t.Fatalf("Next: %d %v, want %d %v", v, is, want, there)
	}
}

// wantSame holds what Next and Needed tell of l against m; wrong places are
// asked, too.
func wantSame(t *testing.T, l *left.Left, m *model) {
	t.Helper()
	v, is := m.next()
	wantNext(t, l, v, is)
	for v := -1; v <= m.n; v++ {
		wantNeeded(t, l, v, m.needed(v)...)
	}
}

func wantAll(t *testing.T, m api.Map) {
	t.Helper()
	g := graphOf(t, m)
	wantSame(t, left.New(g), newModel(m))
	h := contract.Build(g)
	wantHier(t, h, newModel(m).build())
	wantOrder(t, g, h.Rank)
	wantRight(t, h, m)
}

// wantRight holds a hierarchy against what its map asks of it (P4), whichever
// the order is.
func wantRight(t *testing.T, h api.Hier, m api.Map) {
	t.Helper()
	ranks := slices.Sorted(slices.Values(h.Rank))
	for r := range m.N {
		if len(ranks) != m.N || ranks[r] != r {
			t.Fatalf("Rank: %v, of %d places", h.Rank, m.N)
		}
	}
	wantWays(t, h, m)
	for s := range m.N {
		up, all := climb(h, s, func(w api.Short) (int, int) { return w.From, w.To }), farsIn(m, s)
		for e := range m.N {
			down := climb(h, e, func(w api.Short) (int, int) { return w.To, w.From })
			if d := meet(up, down); d != all[e] {
				t.Fatalf("from %d to %d: %d by the hierarchy, %d by the map\n%v\n%v", s, e, d, all[e], h, m)
			}
		}
	}
}

// wantWays asks of each way that it is an arc of the map, or that it leads by a
// place lower than both its ends, and is as long as its halves; of two ways
// that their ends are not the same.
func wantWays(t *testing.T, h api.Hier, m api.Map) {
	t.Helper()
	long := map[[2]int]int{}
	for _, w := range h.Ways {
		ends := [2]int{w.From, w.To}
		if _, is := long[ends]; is {
			t.Fatalf("two ways from %d to %d", w.From, w.To)
		}
		long[ends] = w.Way.W
	}
	for _, w := range h.Ways {
		if w.Way.Mid == api.None {
			if a := m.Arcs[w.Way.Arc]; a != (api.Arc{From: w.From, To: w.To, W: w.Way.W}) {
				t.Fatalf("%v is not the arc %v", w, a)
			}
			continue
		}
		one, is := long[[2]int{w.From, w.Way.Mid}]
		two, too := long[[2]int{w.Way.Mid, w.To}]
		if !is || !too || one+two != w.Way.W || w.Way.Arc != api.None {
			t.Fatalf("%v: halves %d %v, %d %v", w, one, is, two, too)
		}
		if low := h.Rank[w.Way.Mid]; low >= h.Rank[w.From] || low >= h.Rank[w.To] {
			t.Fatalf("%v leads by a place that is not lower: %v", w, h.Rank)
		}
	}
}

// climb is how far it is from s by ways that rise; ends tells of a way from
// where it rises, and to where.
func climb(h api.Hier, s int, ends func(api.Short) (int, int)) map[int]int {
	l := map[int]int{s: 0}
	for shorter := true; shorter; {
		shorter = false
		for _, w := range h.Ways {
			low, high := ends(w)
			d, is := l[low]
			if !is || h.Rank[low] > h.Rank[high] {
				continue
			}
			if old, is := l[high]; !is || d+w.Way.W < old {
				l[high], shorter = d+w.Way.W, true
			}
		}
	}
	return l
}

func meet(up map[int]int, down map[int]int) int {
	least := api.Far
	for v, d := range up {
		if e, is := down[v]; is && (least == api.Far || d+e < least) {
			least = d + e
		}
	}
	return least
}

// farsIn is how far it is from s to each place, by all arcs.
func farsIn(m api.Map, s int) []int {
	l := slices.Repeat([]int{api.Far}, m.N)
	l[s] = 0
	for shorter := true; shorter; {
		shorter = false
		for _, a := range m.Arcs {
			if l[a.From] != api.Far && (l[a.To] == api.Far || l[a.From]+a.W < l[a.To]) {
				l[a.To], shorter = l[a.From]+a.W, true
			}
		}
	}
	return l
}

func wrongPlaces(n int) []int {
	return []int{math.MinInt, math.MinInt32, -n - 1, -2, -1, n, n + 1, 2*n + 1, api.MaxVertex, math.MaxInt32, 1 << 32, math.MaxInt}
}

func randomMap(r *rand.Rand, most int) api.Map {
	m := api.Map{N: 1 + r.Intn(most)}
	long := []int{1, 2, 5, 100, api.MaxWeight + 1}[r.Intn(5)]
	for range r.Intn(4 * m.N) {
		m.Arcs = append(m.Arcs, api.Arc{From: r.Intn(m.N), To: r.Intn(m.N), W: r.Intn(long)})
	}
	return m
}

func TestExample(t *testing.T) {
	g := graphOf(t, mapOf(3, 0, 1, 2, 1, 2, 3))
	if order := contract.Order(g); !slices.Equal(order, []int{0, 2, 1}) {
		t.Error("Order:", order)
	}
	wantHier(t, contract.Build(g), api.Hier{Rank: []int{0, 2, 1}, Ways: []api.Short{arc(0, 1, 2, 0), arc(1, 2, 3, 1)}})
}

// Places that are dear at first are taken when others were: a ring of four, of
// which the first one is taken with a way laid over it.
func TestRing(t *testing.T) {
	m := mapOf(4, 0, 1, 1, 1, 2, 2, 2, 3, 3, 3, 0, 4)
	wantHier(t, contract.Build(graphOf(t, m)), api.Hier{
		Rank: []int{0, 2, 1, 3},
		Ways: []api.Short{
			arc(0, 1, 1, 0), arc(3, 0, 4, 3), // 3 to 1 is laid
			arc(2, 3, 3, 2), arc(1, 2, 2, 1), // 1 to 3 is laid
			by(1, 3, 5, 2), by(3, 1, 5, 0),
		},
	})
	wantAll(t, m)
}

func TestNextIsTheCheapest(t *testing.T) {
	for _, c := range []struct {
		next int
		m    api.Map
	}{
		{0, mapOf(1)}, {0, mapOf(5)}, {0, mapOf(1, 0, 0, 3)}, // of several the least one
		{0, mapOf(2, 0, 1, 5)}, {0, mapOf(2, 1, 0, 5)}, {0, mapOf(3, 0, 1, 0, 1, 2, 0, 2, 0, 0)},
		{1, mapOf(3, 1, 2, 5, 2, 1, 5)},                                              // below 0 ahead of 0
		{2, mapOf(5, 0, 2, 1, 1, 2, 1, 3, 2, 1)},                                     // many ways to it, none from it
		{3, mapOf(4, 0, 1, 1, 3, 0, 1, 3, 1, 1, 3, 2, 1)},                            // many ways from it, none to it
		{1, mapOf(4, 0, 1, 1, 1, 0, 1, 0, 2, 1, 2, 0, 1, 0, 3, 1, 3, 0, 1)},          // a star's end ahead of its middle
		{0, mapOf(4, 0, 1, 9, 0, 1, 8, 1, 0, 9, 2, 3, 1, 3, 2, 1, 2, 2, 0, 3, 3, 0)}, // what a graph does not keep is no cheaper
		{1, mapOf(5, 0, 1, 1, 2, 0, 1, 0, 3, 1, 3, 0, 1, 1, 4, 1, 4, 1, 1)},          // 1 - 3 ahead of 3 - 4, and of 0 - 2 further on
	} {
		want := newModel(c.m)
		if v, _ := want.next(); v != c.next {
			t.Errorf("%v: the model tells %d, the row %d", c.m, v, c.next)
		}
		wantNext(t, left.New(graphOf(t, c.m)), c.next, true)
	}
}

// What was lost counts, what was laid counts, and what was taken is not told
// again.
func TestNextOfWhatIsLeft(t *testing.T) {
	g := graphOf(t, mapOf(4, 1, 0, 1, 0, 1, 1, 2, 3, 1))
	l := left.New(g)
	for _, v := range []int{0, 2, 1, 3} { // 1 costs 1, and so does 3, when they have lost their ways
		wantNext(t, l, v, true)
		l.Take(v)
	}
	wantNext(t, l, 0, false)
	l = left.New(g)
	l.Take(1)
	wantNext(t, l, 2, true)
	l.Put(3, 0, 1, 7)
	l.Put(0, 3, 1, 7)
	wantNext(t, l, 3, true) // -2, and 0 and 2 cost -1
}

func TestNoneLeft(t *testing.T) {
	for _, l := range []*left.Left{nil, {}, left.New(nil), left.New(graphOf(t, api.Map{}))} {
		wantNext(t, l, 0, false)
		for _, v := range append(wrongPlaces(0), 0, 1) {
			wantNeeded(t, l, v)
		}
	}
}

func TestNeededOfWhatIsNotLeft(t *testing.T) {
	l := left.New(graphOf(t, mapOf(4, 0, 1, 1, 1, 2, 1, 2, 3, 1)))
	wantNeeded(t, l, 1, by(0, 2, 2, 1))
	for _, v := range wrongPlaces(4) {
		wantNeeded(t, l, v)
	}
	l.Take(1)
	wantNeeded(t, l, 1)
	wantNeeded(t, l, 2) // no way leads to it any more
}

// The places from which it comes rise, and for each those to which it goes.
func TestNeededInOrder(t *testing.T) {
	l := left.New(graphOf(t, mapOf(6, 4, 2, 10, 2, 5, 1, 2, 0, 2, 1, 2, 20, 2, 3, 3, 2, 4, 4)))
	wantNeeded(t, l, 2,
		by(1, 0, 22, 2), by(1, 3, 23, 2), by(1, 4, 24, 2), by(1, 5, 21, 2),
		by(4, 0, 12, 2), by(4, 3, 13, 2), by(4, 5, 11, 2))
	for _, v := range []int{0, 1, 3, 5} {
		wantNeeded(t, l, v)
	}
	wantNeeded(t, l, 4) // there and back is no pair
}

// From 0 to 2 by 1 it is 5; around 1 it is far, or near enough.
func TestNeededAtTheEdge(t *testing.T) {
	need := by(0, 2, 5, 1)
	for _, c := range []struct {
		need  bool
		other []int
	}{
		{true, nil},
		{true, []int{0, 2, 6}}, {false, []int{0, 2, 5}}, {false, []int{0, 2, 4}}, {false, []int{0, 2, 0}},
		{true, []int{0, 3, 3, 3, 2, 3}}, {false, []int{0, 3, 3, 3, 2, 2}}, {false, []int{0, 3, 5, 3, 2, 0}},
		{true, []int{0, 3, 1, 3, 4, 1, 4, 2, 4}}, {false, []int{0, 3, 1, 3, 4, 1, 4, 2, 3}},
		{false, []int{0, 2, 9, 0, 3, 1, 3, 2, 1}}, {false, []int{0, 2, 9, 0, 2, 5}}, // the way is too long, another one not
		{true, []int{0, 3, 0, 3, 1, 0}}, // near, but by 1: 2 more ways lead to it
		{true, []int{2, 0, 0}}, {true, []int{2, 3, 0, 3, 0, 0}},
	} {
		m := mapOf(5, append([]int{0, 1, 2, 1, 2, 3}, c.other...)...)
		l := left.New(graphOf(t, m))
		if got := contract.Needed(l, 1); slices.Contains(got, need) != c.need {
			t.Errorf("around by %v: %v", c.other, got)
		}
		wantSame(t, l, newModel(m))
	}
}

// Where all is 0 long, one gets around by 0 too.
func TestNeededOfNoughts(t *testing.T) {
	l := left.New(graphOf(t, mapOf(4, 0, 1, 0, 1, 2, 0)))
	wantNeeded(t, l, 1, by(0, 2, 0, 1))
	l = left.New(graphOf(t, mapOf(4, 0, 1, 0, 1, 2, 0, 0, 3, 0, 3, 2, 0)))
	wantNeeded(t, l, 1)
	wantNeeded(t, l, 3)
	wantAll(t, mapOf(4, 0, 1, 0, 1, 2, 0, 2, 3, 0, 3, 0, 0, 0, 2, 0, 2, 1, 0))
}

// A way that was laid is a half as any other: its own Mid is forgotten.
func TestNeededOfWaysThatWereLaid(t *testing.T) {
	l := left.New(graphOf(t, mapOf(5, 0, 1, 1, 3, 4, 1)))
	l.Put(1, 3, 7, 2)
	wantNeeded(t, l, 1, by(0, 3, 8, 1))
	wantNeeded(t, l, 3, by(1, 4, 8, 3))
	l.Put(0, 3, 8, 99)
	wantNeeded(t, l, 1)
}

// Ways may be laid that are longer than a map's: as long as a sum of two is an
// int, it is told.
func TestNeededOfLongWays(t *testing.T) {
	l := left.New(graphOf(t, mapOf(3)))
	l.Put(0, 1, math.MaxInt-1, 0)
	l.Put(1, 2, 1, 0)
	wantNeeded(t, l, 1, by(0, 2, math.MaxInt, 1))
	l.Put(0, 2, math.MaxInt, 1)
	wantNeeded(t, l, 1)
	l.Put(1, 2, 0, 0)
	wantNeeded(t, l, 1, by(0, 2, math.MaxInt-1, 1))
	l = left.New(graphOf(t, mapOf(3)))
	l.Put(0, 1, math.MaxInt, 0)
	l.Put(1, 2, math.MaxInt, 0)
	for _, s := range contract.Needed(l, 1) { // no int is that long: it ends, and lays nothing
		if l.Put(s.From, s.To, s.W, s.Mid) {
			t.Errorf("%v may be laid", s)
		}
	}
}

// Nothing is laid, nor taken, by asking.
func TestAskingChangesNothing(t *testing.T) {
	r := rand.New(rand.NewSource(1))
	for range 100 {
		m := randomMap(r, 8)
		l, first := left.New(graphOf(t, m)), newModel(m)
		for range 2 {
			wantSame(t, l, first)
		}
		for u := range m.N {
			if cost := l.Cost(u); cost != first.cost(u) {
				t.Fatalf("Cost(%d): %d, was %d", u, cost, first.cost(u))
			}
			for v := range m.N {
				want, there := first.way(u, v)
				if way, is := l.Way(u, v); way != want.Way || is != there {
					t.Fatalf("Way(%d, %d): %v %v, was %v %v", u, v, way, is, want, there)
				}
			}
		}
		if len(l.Places()) != m.N {
			t.Fatalf("Places: %v", l.Places())
		}
	}
}

// Places are taken in any order, with what is needed laid or not.
func TestNextAndNeededOfWhatIsLeft(t *testing.T) {
	r := rand.New(rand.NewSource(2))
	for range 150 {
		m := randomMap(r, 8)
		l, want := left.New(graphOf(t, m)), newModel(m)
		for _, v := range r.Perm(m.N) {
			for _, s := range want.needed(v) {
				if r.Intn(4) > 0 {
					l.Put(s.From, s.To, s.W, s.Mid)
					want.put(s)
				}
			}
			l.Take(v)
			want.take(v)
			wantSame(t, l, want)
		}
	}
}

func TestBuildOfNil(t *testing.T) {
	for _, g := range []*graph.Graph{nil, {}, graph.New(api.Map{N: -1}), graphOf(t, api.Map{})} {
		if h := contract.Build(g); len(h.Rank) != 0 || len(h.Ways) != 0 {
			t.Error("Build:", h)
		}
		if order := contract.Order(g); len(order) != 0 {
			t.Error("Order:", order)
		}
	}
}

func TestBuildOfSomeMaps(t *testing.T) {
	for _, m := range []api.Map{
		{N: 1}, {N: 4}, mapOf(1, 0, 0, 7), mapOf(3, 0, 0, 0, 1, 1, 1, 2, 2, 2), // no ways at all
		mapOf(2, 0, 1, 7), mapOf(2, 1, 0, 7), mapOf(2, 0, 1, 7, 1, 0, 8),
		mapOf(2, 0, 1, 5, 0, 1, 3, 0, 1, 3, 0, 1, 4, 1, 1, 0), // the least alone, with its own number
		mapOf(3, 0, 1, 5, 1, 2, 1, 0, 2, 9),                   // an arc that is longer than a walk
		mapOf(3, 0, 1, 5, 1, 2, 4, 0, 2, 9), mapOf(3, 0, 1, 5, 1, 2, 5, 0, 2, 9),
		mapOf(5, 0, 4, 1, 4, 1, 1, 2, 4, 1, 4, 3, 1, 1, 0, 7, 3, 2, 7),
		mapOf(4, 1, 0, 2, 0, 2, 3, 3, 0, 1, 0, 3, 1, 1, 2, 9),
		mapOf(6, 0, 1, 1, 1, 2, 1, 2, 0, 1, 3, 4, 1, 4, 5, 1, 5, 3, 1), // two parts
		mapOf(4, 0, 1, api.MaxWeight, 1, 2, api.MaxWeight, 2, 3, api.MaxWeight, 3, 0, api.MaxWeight),
		mapOf(4, 0, 1, 0, 1, 0, 0, 1, 2, 0, 2, 1, 0, 2, 3, 0, 3, 2, 0, 3, 0, 0, 0, 3, 0),
		mapOf(5, 1, 0, 1, 0, 1, 1, 2, 0, 1, 0, 2, 1, 3, 0, 1, 0, 3, 1, 4, 0, 1, 0, 4, 1), // a star
		mapOf(4, 0, 1, 1, 0, 2, 2, 0, 3, 3, 1, 0, 4, 1, 2, 5, 1, 3, 6, 2, 0, 7, 2, 1, 8, 2, 3, 9, 3, 0, 1, 3, 1, 2, 3, 2, 3),
	} {
		wantAll(t, m)
	}
}

// What is needed is found ahead of laying any of it: that from 1 to 3 by 0 is
// needed, though with the way from 1 to 2 one gets there as near by 2.
func TestAllIsFoundAheadOfLaying(t *testing.T) {
	m := mapOf(5, 1, 0, 1, 0, 2, 1, 0, 3, 1, 2, 3, 0, 3, 4, 1)
	g := graphOf(t, m)
	wantNeeded(t, left.New(g), 0, by(1, 2, 2, 0), by(1, 3, 2, 0))
	h := contract.Build(g)
	for _, s := range []api.Short{by(1, 2, 2, 0), by(1, 3, 2, 0)} {
		if h.Rank[0] != 0 || !slices.Contains(h.Ways, s) {
			t.Errorf("no %v in %v", s, h)
		}
	}
	wantAll(t, m)
}

func TestBuildOfRandomMaps(t *testing.T) {
	r := rand.New(rand.NewSource(3))
	for range 800 {
		wantAll(t, randomMap(r, 9))
	}
	for range 20 {
		wantAll(t, randomMap(r, 25))
	}
}

// gridOf is places in rows and columns, of which neighbours have arcs there and
// back.
func gridOf(r *rand.Rand, side int, long int) api.Map {
	m := api.Map{N: side * side}
	both := func(u int, v int) {
		m.Arcs = append(m.Arcs, api.Arc{From: u, To: v, W: r.Intn(long)}, api.Arc{From: v, To: u, W: r.Intn(long)})
	}
	for v := range m.N {
		if v%side+1 < side {
			both(v, v+1)
		}
		if v+side < m.N {
			both(v, v+side)
		}
	}
	return m
}

func TestBuildOfGrids(t *testing.T) {
	r := rand.New(rand.NewSource(4))
	for _, long := range []int{1, 3, 1000} {
		wantAll(t, gridOf(r, 5, long))
	}
}

// As great a map as a server builds.
func TestBuildOfGreatGrid(t *testing.T) {
	m := gridOf(rand.New(rand.NewSource(5)), 70, 1000)
	g := graphOf(t, m)
	h := contract.Build(g)
	wantWays(t, h, m)
	wantOrder(t, g, h.Rank)
	for _, s := range []int{0, 35*70 + 35, m.N - 1} {
		up, all := climb(h, s, func(w api.Short) (int, int) { return w.From, w.To }), farsIn(m, s)
		for _, e := range []int{0, 1, 69, 2222, m.N - 1} {
			down := climb(h, e, func(w api.Short) (int, int) { return w.To, w.From })
			if d := meet(up, down); d != all[e] {
				t.Errorf("from %d to %d: %d, want %d", s, e, d, all[e])
			}
		}
	}
}

// So many places that a way of asking all of them at each step, or each time
// whether one gets around another, would not end soon.
func TestBuildOfManyPlaces(t *testing.T) {
	if h := contract.Build(graphOf(t, api.Map{N: 1 << 18})); len(h.Ways) != 0 || h.Rank[77] != 77 || h.Rank[1<<18-1] != 1<<18-1 {
		t.Error("places without ways: not by their numbers")
	}
	const n = 50000
	m := api.Map{N: n}
	for v := 1; v < n; v++ {
		m.Arcs = append(m.Arcs, api.Arc{From: v - 1, To: v, W: api.MaxWeight}, api.Arc{From: v, To: v - 1, W: api.MaxWeight})
	}
	h := contract.Build(graphOf(t, m))
	wantWays(t, h, m)
	up := climb(h, 0, func(w api.Short) (int, int) { return w.From, w.To })
	down := climb(h, n-1, func(w api.Short) (int, int) { return w.To, w.From })
	if d := meet(up, down); d != (n-1)*api.MaxWeight {
		t.Errorf("from end to end: %d", d)
	}
}

// A place that all ways lead to, and from, is taken last but one.
func TestBuildOfStar(t *testing.T) {
	const n = 2000
	m := api.Map{N: n + 1}
	for v := 1; v <= n; v++ {
		m.Arcs = append(m.Arcs, api.Arc{From: 0, To: v, W: v}, api.Arc{From: v, To: 0, W: v})
	}
	h := contract.Build(graphOf(t, m))
	wantWays(t, h, m)
	if len(h.Ways) != 2*n || h.Rank[0] != n {
		t.Errorf("%d ways, the middle is %d", len(h.Ways), h.Rank[0])
	}
}

func TestSame(t *testing.T) {
	full := func() api.Hier {
		return api.Hier{Rank: []int{2, 0, 1}, Ways: []api.Short{arc(1, 0, 3, 0), arc(2, 1, 4, 1), by(2, 0, 7, 1)}}
	}
	change := func(f func(h *api.Hier)) api.Hier {
		h := full()
		f(&h)
		return h
	}
	if !contract.Same(full(), full()) || !contract.Same(api.Hier{}, api.Hier{}) {
		t.Error("the same are told not to be")
	}
	if !contract.Same(api.Hier{}, api.Hier{Rank: []int{}, Ways: []api.Short{}}) { // R6
		t.Error("nil and empty are told apart")
	}
	for i, h := range []api.Hier{
		{}, {Rank: full().Rank}, {Ways: full().Ways},
		change(func(h *api.Hier) { h.Rank[0] = 3 }),
		change(func(h *api.Hier) { h.Rank[0], h.Rank[1] = 0, 2 }),
		change(func(h *api.Hier) { h.Rank = h.Rank[:2] }),
		change(func(h *api.Hier) { h.Rank = append(h.Rank, 0) }),
		change(func(h *api.Hier) { h.Ways = h.Ways[:2] }),
		change(func(h *api.Hier) { h.Ways = append(h.Ways, api.Short{}) }),
		change(func(h *api.Hier) { h.Ways[0], h.Ways[1] = h.Ways[1], h.Ways[0] }), // in another order
		change(func(h *api.Hier) { h.Ways[2].From = 1 }),
		change(func(h *api.Hier) { h.Ways[2].To = 1 }),
		change(func(h *api.Hier) { h.Ways[2].W = 8 }),
		change(func(h *api.Hier) { h.Ways[2].Mid = 0 }),
		change(func(h *api.Hier) { h.Ways[2].Arc = 0 }),
	} {
		if contract.Same(full(), h) || contract.Same(h, full()) {
			t.Errorf("%d: %v is told to be the same", i, h)
		}
		if !contract.Same(h, h) {
			t.Errorf("%d: %v is told not to be the same as itself", i, h)
		}
	}
}

// R2: a graph that is handed in stays as it was, and what comes out of two
// calls shares nothing, nor does room behind it.
func TestGraphStaysAndAnswersAreNew(t *testing.T) {
	m := gridOf(rand.New(rand.NewSource(6)), 4, 10)
	g := graphOf(t, m)
	before, want, order := g.Print(), contract.Build(g), contract.Order(g)
	h := contract.Build(g)
	for i := range h.Rank[:cap(h.Rank)] {
		h.Rank[:cap(h.Rank)][i] = -5
	}
	for i := range h.Ways[:cap(h.Ways)] {
		h.Ways[:cap(h.Ways)][i] = api.Short{}
	}
	l := contract.Order(g)
	for i := range l[:cap(l)] {
		l[:cap(l)][i] = -5
	}
	if g.Print() != before || len(g.Kept()) != len(m.Arcs) {
		t.Error("the graph is another one")
	}
	wantHier(t, want, newModel(m).build())
	wantHier(t, contract.Build(g), want)
	if !slices.Equal(contract.Order(g), order) {
		t.Error("Order is another one")
	}
}

func TestNeededIsNew(t *testing.T) {
	m := mapOf(5, 0, 2, 1, 1, 2, 1, 2, 3, 1, 2, 4, 1)
	l := left.New(graphOf(t, m))
	one, two := contract.Needed(l, 2), contract.Needed(l, 2)
	for i := range one[:cap(one)] {
		one[:cap(one)][i] = api.Short{}
	}
	if want := newModel(m).needed(2); len(want) != 4 || !slices.Equal(two, want) {
		t.Errorf("%v, want %v", two, want)
	}
	wantSame(t, l, newModel(m))
}

// The order in which maps tell their keys must not be seen: what is asked again
// is answered again.
func TestBuildAgain(t *testing.T) {
	m := gridOf(rand.New(rand.NewSource(7)), 12, 4)
	want := contract.Build(graphOf(t, m))
	for range 20 {
		if !contract.Same(contract.Build(graphOf(t, m)), want) {
			t.Fatal("another hierarchy")
		}
	}
}

func FuzzBuild(f *testing.F) {
	f.Add(byte(3), []byte{0, 1, 2, 1, 2, 3})
	f.Add(byte(5), []byte{0, 4, 1, 4, 1, 1, 2, 4, 1, 4, 3, 1, 1, 0, 7, 3, 2, 7})
	f.Add(byte(0), []byte{})
	f.Fuzz(func(t *testing.T, n byte, arcs []byte) {
		m := api.Map{N: int(n % 12)}
		for ; m.N > 0 && len(arcs) >= 3; arcs = arcs[3:] {
			m.Arcs = append(m.Arcs, api.Arc{From: int(arcs[0]) % m.N, To: int(arcs[1]) % m.N, W: int(arcs[2])})
		}
		wantAll(t, m)
	})
}
