package dist_test

import (
	"math"
	"math/rand"
	"slices"
	"testing"

	"postroad/api"
	"postroad/dist"
	"postroad/graph"
)

const far = api.Far

func mapOf(n int, numbers ...int) api.Map {
	m := api.Map{N: n}
	for i := 0; i+2 < len(numbers); i += 3 {
		m.Arcs = append(m.Arcs, api.Arc{From: numbers[i], To: numbers[i+1], W: numbers[i+2]})
	}
	return m
}

func build(t *testing.T, m api.Map) *graph.Graph {
	t.Helper()
	g := graph.New(m)
	if g == nil {
		t.Fatalf("New of %d places, %d arcs: nil", m.N, len(m.Arcs))
	}
	return g
}

// modelAll is how far it is from each place to each: all arcs of the map are
// tried, loops and long ones among them, until no walk gets shorter by one.
func modelAll(m api.Map) [][]int {
	all := make([][]int, m.N)
	for s := range m.N {
		all[s] = slices.Repeat([]int{far}, m.N)
		all[s][s] = 0
		for shorter := true; shorter; {
			shorter = false
			for _, a := range m.Arcs {
				begin, end := all[s][a.From], all[s][a.To]
				if begin != far && (end == far || begin+a.W < end) {
					all[s][a.To], shorter = begin+a.W, true
				}
			}
		}
	}
	return all
}

// modelAround asks of each place, in order.
func modelAround(fars []int, most int) []int {
	var l []int
	for v, d := range fars {
		if d != far && d <= most {
			l = append(l, v)
		}
	}
	return l
}

type answer struct {
	at, sum int
	is      bool
}

// modelWalk follows an arc to the next, as the chapter says it.
func modelWalk(m api.Map, s int, arcs []int) answer {
	if s < 0 || s >= m.N {
		return answer{}
	}
	w := answer{s, 0, true}
	for _, k := range arcs {
		if k < 0 || k >= len(m.Arcs) || m.Arcs[k].From != w.at {
			return answer{}
		}
		w.at = m.Arcs[k].To
		w.sum += m.Arcs[k].W
	}
	return w
}

func wantWalk(t *testing.T, m api.Map, s int, want answer, arcs ...int) {
	t.Helper()
	at, sum, is := dist.Walk(m, s, arcs...)
	if got := (answer{at, sum, is}); got != want {
		t.Errorf("Walk from %d by %v: %v, want %v", s, arcs, got, want)
	}
}

func wantList(t *testing.T, what string, v int, got []int, want []int) {
	t.Helper()
	if !slices.Equal(got, want) {
		t.Errorf("%s of %d: %v, want %v", what, v, got, want)
	}
}

func wantAll(t *testing.T, m api.Map) {
	t.Helper()
	g, all := build(t, m), modelAll(m)
	for s := range m.N {
		back := make([]int, m.N)
		for v := range m.N {
			back[v] = all[v][s]
			if d := dist.Between(g, s, v); d != all[s][v] {
				t.Errorf("%v: Between %d and %d: %d, want %d", m, s, v, d, all[s][v])
			}
		}
		wantList(t, "From", s, dist.From(g, s), all[s])
		wantList(t, "To", s, dist.To(g, s), back)
		mosts := []int{math.MinInt, -2, -1, 0, 1, math.MaxInt}
		for _, d := range all[s] {
			mosts = append(mosts, d-1, d, d+1)
		}
		for _, most := range mosts {
			wantList(t, "Around", s, dist.Around(g, s, most), modelAround(all[s], most))
		}
	}
	wantWrongPlaces(t, g)
}

func wrongPlaces(n int) []int {
	return []int{math.MinInt, math.MinInt32, -n - 1, -2, -1, n, n + 1, 2*n + 1, api.MaxVertex, math.MaxInt32, 1 << 32, math.MaxInt}
}

// wantWrongPlaces also asks of places that are some, beside those that are not.
func wantWrongPlaces(t *testing.T, g *graph.Graph) {
	t.Helper()
	n := g.N()
	for _, v := range wrongPlaces(n) {
		if from, to := dist.From(g, v), dist.To(g, v); len(from) != 0 || len(to) != 0 {
			t.Errorf("of %d, which is no place: From %v, To %v", v, from, to)
		}
		for _, most := range []int{-1, 0, math.MaxInt} {
			if l := dist.Around(g, v, most); len(l) != 0 {
				t.Errorf("Around %d, which is no place: %v", v, l)
			}
		}
		for _, u := range []int{0, n - 1, v, -v} {
			if a, b := dist.Between(g, u, v), dist.Between(g, v, u); a != far || b != far {
				t.Errorf("Between %d and %d, which is no place: %d, back %d", u, v, a, b)
			}
		}
	}
}

func randomMap(r *rand.Rand) api.Map {
	m := api.Map{N: 1 + r.Intn(9)}
	most := []int{1, 2, 5, 100, api.MaxWeight + 1}[r.Intn(5)]
	for range r.Intn(4 * m.N) {
		m.Arcs = append(m.Arcs, api.Arc{From: r.Intn(m.N), To: r.Intn(m.N), W: r.Intn(most)})
	}
	return m
}

// mapsThatMayNotBe are each of them wrong in one thing; a walk from 0 by the
// arc 0 would be one in most, and arcs without a fault lie around.
func mapsThatMayNotBe() []api.Map {
	return []api.Map{
		{N: -1}, {N: math.MinInt}, {N: api.MaxVertex + 1}, {N: math.MaxInt},
		mapOf(0, 0, 0, 0), mapOf(-1, 0, 0, 0), mapOf(api.MaxVertex+1, 0, 1, 1),
		mapOf(2, 0, 1, 1, 2, 0, 1), mapOf(2, 0, 1, 1, 0, 2, 1), mapOf(2, 0, 1, 1, -1, 0, 1), mapOf(2, 0, 1, 1, 0, -1, 1),
		mapOf(2, 0, 1, 1, math.MaxInt, 0, 1), mapOf(2, 0, 1, 1, 0, math.MinInt, 1),
		mapOf(2, 0, 2, 1), mapOf(2, 0, -1, 1),
		mapOf(2, 0, 1, -1), mapOf(2, 0, 1, api.MaxWeight+1), mapOf(2, 0, 1, math.MaxInt), mapOf(2, 0, 1, math.MinInt),
		mapOf(2, 0, 1, 1, 1, 0, 1, 0, 0, -1), // the last one alone
	}
}

func TestExamples(t *testing.T) {
	m := mapOf(3, 0, 1, 5, 1, 2, 1, 0, 2, 9)
	g := build(t, m)
	wantList(t, "From", 0, dist.From(g, 0), []int{0, 5, 6})
	wantList(t, "To", 0, dist.To(g, 0), []int{0, far, far})
	wantList(t, "From", 2, dist.From(g, 2), []int{far, far, 0})
	wantList(t, "To", 2, dist.To(g, 2), []int{6, 1, 0})
	wantList(t, "Around", 0, dist.Around(g, 0, 5), []int{0, 1})
	if d := dist.Between(g, 0, 2); d != 6 {
		t.Error("Between:", d)
	}
	wantWalk(t, m, 0, answer{2, 6, true}, 0, 1)
	wantWalk(t, m, 0, answer{2, 9, true}, 2)
	if n := dist.Total(m); n != 15 {
		t.Error("Total:", n)
	}
}

func TestSomeMaps(t *testing.T) {
	for _, m := range []api.Map{
		{}, {N: 1}, {N: 5}, {Arcs: []api.Arc{}}, {N: 2, Arcs: []api.Arc{}},
		mapOf(1, 0, 0, 0), mapOf(1, 0, 0, 3), mapOf(3, 1, 1, 0, 1, 1, 4, 0, 1, 2), // loops
		mapOf(2, 0, 1, 7), mapOf(2, 1, 0, 7), mapOf(2, 0, 1, 7, 1, 0, 8),
		mapOf(2, 0, 1, 5, 0, 1, 3, 0, 1, 4),                                // the least of alike ones
		mapOf(3, 0, 1, 0, 1, 2, 0, 2, 0, 0),                                // rings of noughts
		mapOf(4, 3, 2, 0, 2, 1, 0, 1, 0, 0, 3, 0, 1),                       // noughts, falling
		mapOf(4, 0, 1, 1, 0, 2, 1, 1, 3, 1, 2, 3, 1),                       // two that are as short
		mapOf(5, 0, 1, 10, 0, 2, 1, 2, 3, 1, 3, 1, 1, 1, 4, 1, 2, 4, 20),   // shorter by more arcs
		mapOf(4, 0, 3, 9, 0, 2, 5, 2, 3, 3, 0, 1, 1, 1, 2, 3, 1, 3, 7),     // got shorter again and again
		mapOf(6, 0, 1, 1, 1, 2, 1, 2, 0, 1, 3, 4, 1, 4, 5, 1, 5, 3, 1),     // two parts
		mapOf(3, 0, 1, api.MaxWeight, 1, 2, api.MaxWeight, 2, 0, 1<<31-1),  // as long as may be
		mapOf(3, 2, 0, 1, 2, 1, 1, 0, 1, 5, 1, 0, 5, 0, 2, 2, 1, 2, 1<<30), // there and back
	} {
		wantAll(t, m)
	}
}

func TestRandomMaps(t *testing.T) {
	r := rand.New(rand.NewSource(1))
	for range 1500 {
		wantAll(t, randomMap(r))
	}
}

func TestGreaterMaps(t *testing.T) {
	r := rand.New(rand.NewSource(2))
	for range 3 {
		m := api.Map{N: 60}
		for range 60 * 4 {
			m.Arcs = append(m.Arcs, api.Arc{From: r.Intn(m.N), To: r.Intn(m.N), W: r.Intn(1000)})
		}
		wantAll(t, m)
	}
}

// It is no farther by way of another place.
func TestByWayOfAnother(t *testing.T) {
	r := rand.New(rand.NewSource(3))
	for range 200 {
		m := randomMap(r)
		g := build(t, m)
		for v := range m.N {
			to, from := dist.To(g, v), dist.From(g, v)
			for s := range m.N {
				direct := dist.From(g, s)
				for u := range m.N {
					if to[s] == far || from[u] == far {
						continue
					}
					if direct[u] == far || direct[u] > to[s]+from[u] {
						t.Errorf("%v: from %d to %d: %d, by %d: %d", m, s, u, direct[u], v, to[s]+from[u])
					}
				}
			}
		}
	}
}

// What is told has a walk that is as long, and no walk is shorter.
func TestDistancesAreWalks(t *testing.T) {
	r := rand.New(rand.NewSource(4))
	for range 300 {
		m := randomMap(r)
		g := build(t, m)
		s := r.Intn(m.N)
		from := dist.From(g, s)
		for end, d := range from {
			if d == far {
				continue
			}
			l := shortest(t, m, from, s, end)
			wantWalk(t, m, s, answer{end, d, true}, l...)
		}
		for range 20 {
			var arcs []int
			for at := s; len(arcs) < 12; at = m.Arcs[arcs[len(arcs)-1]].To {
				k := someFrom(r, m, at)
				if k < 0 {
					break
				}
				arcs = append(arcs, k)
			}
			at, sum, is := dist.Walk(m, s, arcs...)
			if !is || from[at] == far || sum < from[at] {
				t.Errorf("%v: Walk from %d by %v: %d %d %v, From: %v", m, s, arcs, at, sum, is, from)
			}
		}
	}
}

// shortest is arcs from s to end, found by trying walks of more and more arcs
// that are as long as from tells.
func shortest(t *testing.T, m api.Map, from []int, s int, end int) []int {
	t.Helper()
	ways := map[int][]int{s: nil}
	for range m.N {
		for k, a := range m.Arcs {
			way, is := ways[a.From]
			if _, done := ways[a.To]; is && !done && from[a.From]+a.W == from[a.To] {
				ways[a.To] = append(slices.Clone(way), k)
			}
		}
	}
	way, is := ways[end]
	if !is {
		t.Errorf("%v: no walk from %d to %d, From: %v", m, s, end, from)
	}
	return way
}

func someFrom(r *rand.Rand, m api.Map, at int) int {
	var l []int
	for k, a := range m.Arcs {
		if a.From == at {
			l = append(l, k)
		}
	}
	if len(l) == 0 {
		return -1
	}
	return l[r.Intn(len(l))]
}

func TestWalk(t *testing.T) {
	m := mapOf(4, 0, 1, 5, 0, 1, 3, 1, 1, 7, 1, 2, 0, 2, 0, api.MaxWeight)
	for s := range m.N {
		wantWalk(t, m, s, answer{s, 0, true})
		wantWalk(t, m, s, answer{s, 0, true}, []int{}...)
	}
	wantWalk(t, m, 0, answer{1, 5, true}, 0)
	wantWalk(t, m, 0, answer{1, 3, true}, 1)
	wantWalk(t, m, 0, answer{1, 19, true}, 0, 2, 2) // arcs that a graph does not keep
	wantWalk(t, m, 0, answer{2, 5, true}, 0, 3)
	wantWalk(t, m, 0, answer{0, 5 + api.MaxWeight, true}, 0, 3, 4)
	wantWalk(t, m, 0, answer{1, 8 + api.MaxWeight, true}, 0, 3, 4, 1) // a place twice
	wantWalk(t, m, 1, answer{0, api.MaxWeight, true}, 3, 4)
	for _, arcs := range [][]int{
		{3}, {2}, {4}, // from another place
		{0, 0}, {0, 1}, {0, 4}, {0, 3, 3}, {0, 3, 4, 2}, // behind an arc that enters another
		{5}, {-1}, {0, 5}, {0, -1}, {math.MinInt}, {math.MaxInt}, {0, 3, math.MaxInt}, {5, 0}, {0, 7, 3},
	} {
		wantWalk(t, m, 0, answer{}, arcs...)
	}
	for _, s := range wrongPlaces(m.N) {
		wantWalk(t, m, s, answer{})
		wantWalk(t, m, s, answer{}, 0)
		wantWalk(t, m, s, answer{}, -1)
	}
	wantWalk(t, m, 3, answer{}, 0)
	wantWalk(t, api.Map{}, 0, answer{})
	wantWalk(t, api.Map{}, 0, answer{}, 0)
	wantWalk(t, api.Map{N: 1}, 0, answer{0, 0, true})
	wantWalk(t, api.Map{N: 1}, 0, answer{}, 0)
}

func TestRandomWalks(t *testing.T) {
	r := rand.New(rand.NewSource(5))
	for range 3000 {
		m := randomMap(r)
		s := r.Intn(m.N+2) - 1
		var arcs []int
		for range r.Intn(5) {
			k := r.Intn(len(m.Arcs)+2) - 1
			if w := modelWalk(m, s, arcs); w.is && r.Intn(8) > 0 {
				k = someFrom(r, m, w.at)
			}
			arcs = append(arcs, k)
		}
		wantWalk(t, m, s, modelWalk(m, s, arcs), arcs...)
	}
}

func TestLongWalk(t *testing.T) {
	m := mapOf(2, 0, 1, api.MaxWeight, 1, 0, api.MaxWeight-1)
	const many = 1 << 20
	arcs := make([]int, many+1)
	for i := range arcs {
		arcs[i] = i % 2
	}
	wantWalk(t, m, 0, answer{0, many/2*api.MaxWeight + many/2*(api.MaxWeight-1), true}, arcs[:many]...)
	arcs[many] = 1
	if at, sum, is := dist.Walk(m, 0, arcs...); at != 0 || sum != 0 || is {
		t.Error("wrong at the end:", at, sum, is)
	}
}

func TestTotal(t *testing.T) {
	for _, c := range []struct {
		m    api.Map
		want int
	}{
		{api.Map{}, 0}, {api.Map{N: 4}, 0}, {api.Map{N: api.MaxVertex}, 0},
		{mapOf(1, 0, 0, 0), 0}, {mapOf(2, 0, 1, 7), 7},
		{mapOf(2, 0, 1, 5, 0, 1, 3, 1, 1, 2), 10}, // those that a graph does not keep, too
		{mapOf(2, 0, 1, api.MaxWeight, 0, 1, api.MaxWeight, 1, 0, api.MaxWeight), 3 << 31},
	} {
		if n := dist.Total(c.m); n != c.want {
			t.Errorf("Total of %v: %d, want %d", c.m, n, c.want)
		}
	}
}

func TestMapsThatMayNotBe(t *testing.T) {
	for _, m := range mapsThatMayNotBe() {
		if n := dist.Total(m); n != -1 {
			t.Errorf("Total of %v: %d", m, n)
		}
		for _, s := range []int{-1, 0, 1, m.N - 1} {
			wantWalk(t, m, s, answer{})
			wantWalk(t, m, s, answer{}, 0)
		}
	}
}

func TestMoreArcsThanMayBe(t *testing.T) {
	m := api.Map{N: 1, Arcs: make([]api.Arc, api.MaxArcs+1)}
	if n := dist.Total(m); n != -1 {
		t.Error("Total:", n)
	}
	wantWalk(t, m, 0, answer{}, 0)
	m.Arcs = m.Arcs[:api.MaxArcs]
	m.Arcs[api.MaxArcs-1].W = 9
	if n := dist.Total(m); n != 9 {
		t.Error("Total of as many as may be:", n)
	}
	wantWalk(t, m, 0, answer{0, 9, true}, 0, api.MaxArcs-1)
	wantWalk(t, m, 0, answer{}, api.MaxArcs)
}

func TestNoGraph(t *testing.T) {
	for _, g := range []*graph.Graph{nil, {}, graph.New(api.Map{})} {
		wantWrongPlaces(t, g)
		if d := dist.Between(g, 0, 0); d != far {
			t.Error("Between:", d)
		}
	}
}

// The places come out by their numbers, not by how far they are.
func TestAroundEdges(t *testing.T) {
	g := build(t, mapOf(5, 4, 3, 0, 3, 2, 2, 2, 1, 0, 1, 0, 1))
	for _, c := range []struct {
		most int
		want []int
	}{
		{math.MinInt, nil}, {-1, nil}, {0, []int{3, 4}}, {1, []int{3, 4}}, {2, []int{1, 2, 3, 4}},
		{3, []int{0, 1, 2, 3, 4}}, {math.MaxInt, []int{0, 1, 2, 3, 4}},
	} {
		wantList(t, "Around", 4, dist.Around(g, 4, c.most), c.want)
	}
	wantList(t, "Around", 0, dist.Around(g, 0, math.MaxInt), []int{0})
	wantList(t, "Around", 0, dist.Around(g, 0, far), nil) // Far is no length
}

// R2: what is handed in stays as it is.
func TestArgumentsStay(t *testing.T) {
	m := mapOf(3, 2, 1, 9, 0, 2, 4, 0, 1, 5, 1, 1, 0, 1, 0, 6)
	first, arcs := slices.Clone(m.Arcs), []int{1, 0, 3, 4, 2, 77}
	g := build(t, m)
	print := g.Print()
	dist.Walk(m, 0, arcs[:5]...)
	dist.Total(m)
	dist.From(g, 0)
	dist.To(g, 0)
	dist.Around(g, 0, 9)
	if !slices.Equal(m.Arcs, first) || !slices.Equal(arcs, []int{1, 0, 3, 4, 2, 77}) {
		t.Errorf("changed: %v, %v", m.Arcs, arcs)
	}
	if g.Print() != print || !slices.Equal(dist.From(g, 0), []int{0, 5, 4}) {
		t.Error("the graph was changed")
	}
}

// R2: what comes out is new memory, and so is the room behind it.
func TestAnswersAreNew(t *testing.T) {
	g := build(t, mapOf(4, 0, 1, 1, 1, 2, 1, 2, 0, 1, 3, 0, 5))
	for what, ask := range map[string]func() []int{
		"From":   func() []int { return dist.From(g, 0) },
		"To":     func() []int { return dist.To(g, 0) },
		"Around": func() []int { return dist.Around(g, 0, 9) },
	} {
		one, two := ask(), ask()
		want := slices.Clone(two)
		for i := range one[:cap(one)] {
			one[:cap(one)][i] = -77
		}
		wantList(t, what, 0, two, want)
		wantList(t, what, 0, ask(), want)
	}
}

// R4: two graphs know nothing of one another.
func TestTwoGraphs(t *testing.T) {
	one, two := build(t, mapOf(2, 0, 1, 5)), build(t, mapOf(3, 1, 0, 2, 2, 1, 1))
	for range 2 {
		wantList(t, "From", 0, dist.From(one, 0), []int{0, 5})
		wantList(t, "From", 2, dist.From(two, 2), []int{3, 1, 0})
		wantList(t, "To", 0, dist.To(two, 0), []int{0, 2, 3})
		wantList(t, "To", 0, dist.To(one, 0), []int{0, far})
	}
}

// Sums go far beyond what 32 bits hold.
func TestLongRoad(t *testing.T) {
	const n = 1 << 18
	m := api.Map{N: n}
	for v := range n - 1 {
		m.Arcs = append(m.Arcs, api.Arc{From: v, To: v + 1, W: api.MaxWeight})
	}
	g := build(t, m)
	from, to := dist.From(g, 0), dist.To(g, n-1)
	for v := range n {
		if from[v] != v*api.MaxWeight || to[v] != (n-1-v)*api.MaxWeight {
			t.Fatalf("place %d: %d and %d", v, from[v], to[v])
		}
	}
	if d := dist.Between(g, 0, n-1); d != (n-1)*api.MaxWeight || dist.Between(g, n-1, 0) != far {
		t.Error("Between:", d)
	}
	if l := dist.Around(g, n-3, math.MaxInt); !slices.Equal(l, []int{n - 3, n - 2, n - 1}) {
		t.Error("Around:", l)
	}
	if sum := dist.Total(m); sum != (n-1)*api.MaxWeight {
		t.Error("Total:", sum)
	}
}

func TestAsManyPlacesAsMayBe(t *testing.T) {
	last := api.MaxVertex - 1
	m := mapOf(api.MaxVertex, last, 0, 3, 0, 7, 2, 7, last, 4)
	g := build(t, m)
	if d := dist.Between(g, last, 7); d != 5 {
		t.Error("Between:", d)
	}
	if l := dist.From(g, last); len(l) != api.MaxVertex || l[0] != 3 || l[7] != 5 || l[last] != 0 || l[1] != far {
		t.Error("From:", len(l))
	}
	if l := dist.Around(g, last, 4); !slices.Equal(l, []int{0, last}) {
		t.Error("Around:", l)
	}
	if d := dist.Between(g, last, last+1); d != far {
		t.Error("Between, behind the last:", d)
	}
	wantWalk(t, m, last, answer{last, 9, true}, 0, 1, 2)
	wantWalk(t, m, last+1, answer{})
}

// Between the ends of this road lie 2^60 walks that are as short: none of them
// may be gone over by itself.
func TestManyWalks(t *testing.T) {
	const squares = 60
	m := api.Map{N: 3*squares + 1}
	for v := 0; v < 3*squares; v += 3 {
		m.Arcs = append(m.Arcs, mapOf(m.N, v, v+1, 1, v, v+2, 1, v+1, v+3, 1, v+2, v+3, 1).Arcs...)
	}
	g := build(t, m)
	if d := dist.Between(g, 0, m.N-1); d != 2*squares {
		t.Error("Between:", d)
	}
	if l := dist.To(g, m.N-1); l[0] != 2*squares || l[1] != 2*squares-1 || l[3] != 2*squares-2 {
		t.Error("To:", l)
	}
}

func FuzzDist(f *testing.F) {
	f.Add(3, []byte{0, 1, 5, 1, 2, 1, 0, 2, 9}, 0, []byte{0, 1})
	f.Add(2, []byte{0, 1, 5, 2, 0, 1}, 1, []byte{9})
	f.Fuzz(func(t *testing.T, n int, numbers []byte, s int, arcs []byte) {
		m := api.Map{N: n % 9}
		for ; len(numbers) >= 3 && len(m.Arcs) < 40; numbers = numbers[3:] {
			m.Arcs = append(m.Arcs, api.Arc{From: int(numbers[0]), To: int(numbers[1]), W: int(int8(numbers[2]))})
		}
		var walk []int
		for _, k := range arcs {
			walk = append(walk, int(int8(k)))
		}
		wrong := func(a api.Arc) bool { return a.From >= m.N || a.To >= m.N || a.W < 0 }
		if m.N < 0 || slices.ContainsFunc(m.Arcs, wrong) {
			wantWalk(t, m, s, answer{}, walk...)
			if n := dist.Total(m); n != -1 {
				t.Errorf("Total of %v: %d", m, n)
			}
			return
		}
		wantWalk(t, m, s, modelWalk(m, s, walk), walk...)
		wantAll(t, m)
	})
}
