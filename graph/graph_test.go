package graph_test

import (
	"math"
	"math/big"
	"math/rand"
	"slices"
	"testing"

	"postroad/api"
	"postroad/graph"
)

func mapOf(n int, numbers ...int) api.Map {
	m := api.Map{N: n}
	for i := 0; i+2 < len(numbers); i += 3 {
		m.Arcs = append(m.Arcs, api.Arc{From: numbers[i], To: numbers[i+1], W: numbers[i+2]})
	}
	return m
}

func build(t *testing.T, m api.Map) *graph.Graph {
	t.Helper()
	g := graph.New(m)
	if g == nil {
		t.Fatalf("New(%v): nil", m)
	}
	return g
}

// modelKept holds each arc against each other one, as the chapter says it.
func modelKept(m api.Map) []int {
	var l []int
	for k, a := range m.Arcs {
		kept := a.From != a.To
		for j, b := range m.Arcs {
			if b.From == a.From && b.To == a.To && (b.W < a.W || b.W == a.W && j < k) {
				kept = false
			}
		}
		if kept {
			l = append(l, k)
		}
	}
	return l
}

// modelEdges goes over all places that may be at the other end, in order.
func modelEdges(m api.Map, v int, out bool) []api.Edge {
	var l []api.Edge
	kept := modelKept(m)
	for other := range m.N {
		ends := [2]int{v, other}
		if !out {
			ends = [2]int{other, v}
		}
		for _, k := range kept {
			if a := m.Arcs[k]; a.From == ends[0] && a.To == ends[1] {
				l = append(l, api.Edge{V: other, W: a.W, Arc: k})
			}
		}
	}
	return l
}

// modelPrint counts with numbers that do not wrap round.
func modelPrint(m api.Map) uint64 {
	numbers := []int{m.N}
	for _, a := range m.Arcs {
		numbers = append(numbers, a.From, a.To, a.W)
	}
	h, _ := new(big.Int).SetString("14695981039346656037", 10)
	factor, all, half := big.NewInt(1099511628211), new(big.Int).Lsh(big.NewInt(1), 64), new(big.Int).Lsh(big.NewInt(1), 32)
	for _, x := range numbers {
		h.Xor(h, big.NewInt(int64(x)))
		h.Mul(h, factor)
		h.Mod(h, all)
		h.Xor(h, new(big.Int).Div(h, half))
	}
	return h.Uint64()
}

func wantBest(t *testing.T, g *graph.Graph, u int, v int, want api.Edge, there bool) {
	t.Helper()
	if e, is := g.Best(u, v); e != want || is != there {
		t.Errorf("Best(%d, %d): %v %v, want %v %v", u, v, e, is, want, there)
	}
}

func wantArc(t *testing.T, g *graph.Graph, k int, want api.Arc, there bool) {
	t.Helper()
	if a, is := g.Arc(k); a != want || is != there {
		t.Errorf("Arc(%d): %v %v, want %v %v", k, a, is, want, there)
	}
}

func wantPlace(t *testing.T, g *graph.Graph, m api.Map, v int) {
	t.Helper()
	out, in := modelEdges(m, v, true), modelEdges(m, v, false)
	if l := g.Out(v); !slices.Equal(l, out) {
		t.Errorf("Out(%d) of %v: %v, want %v", v, m, l, out)
	}
	if l := g.In(v); !slices.Equal(l, in) {
		t.Errorf("In(%d) of %v: %v, want %v", v, m, l, in)
	}
	for to := -1; to <= m.N; to++ {
		i := slices.IndexFunc(out, func(e api.Edge) bool { return e.V == to })
		if i < 0 {
			wantBest(t, g, v, to, api.Edge{}, false)
		} else {
			wantBest(t, g, v, to, out[i], true)
		}
	}
}

func wantGraph(t *testing.T, g *graph.Graph, m api.Map) {
	t.Helper()
	if n := g.N(); n != m.N {
		t.Errorf("N of %v: %d", m, n)
	}
	if l, want := g.Kept(), modelKept(m); !slices.Equal(l, want) {
		t.Errorf("Kept of %v: %v, want %v", m, l, want)
	}
	if h, want := g.Print(), modelPrint(m); h != want {
		t.Errorf("Print of %v: %d, want %d", m, h, want)
	}
	for v := -1; v <= m.N; v++ {
		wantPlace(t, g, m, v)
	}
	for k, a := range m.Arcs {
		wantArc(t, g, k, a, true)
	}
	for _, k := range []int{math.MinInt, -1, len(m.Arcs), math.MaxInt} {
		wantArc(t, g, k, api.Arc{}, false)
	}
}

func randomMap(r *rand.Rand) api.Map {
	m := api.Map{N: 1 + r.Intn(7)}
	most := 1 + r.Intn(4) // few lengths, so that many are equal
	for range r.Intn(25) {
		m.Arcs = append(m.Arcs, api.Arc{From: r.Intn(m.N), To: r.Intn(m.N), W: r.Intn(most)})
	}
	return m
}

func TestExample(t *testing.T) {
	g := build(t, mapOf(2, 0, 1, 5, 0, 1, 3, 1, 1, 0))
	if l := g.Out(0); !slices.Equal(l, []api.Edge{{V: 1, W: 3, Arc: 1}}) {
		t.Error("Out(0):", l)
	}
	if l := g.Out(1); len(l) != 0 {
		t.Error("Out(1):", l)
	}
	if l := g.In(1); !slices.Equal(l, []api.Edge{{V: 0, W: 3, Arc: 1}}) {
		t.Error("In(1):", l)
	}
	if l := g.In(0); len(l) != 0 {
		t.Error("In(0):", l)
	}
}

func TestSomeMaps(t *testing.T) {
	for _, m := range []api.Map{
		{}, {N: 1}, {N: 5}, {Arcs: []api.Arc{}}, {N: 2, Arcs: []api.Arc{}},
		mapOf(1, 0, 0, 0), mapOf(1, 0, 0, 3, 0, 0, 2), // loops alone
		mapOf(2, 0, 1, 7), mapOf(2, 1, 0, 7), mapOf(2, 0, 1, 7, 1, 0, 8),
		mapOf(2, 0, 1, 5, 0, 1, 5, 0, 1, 5), // of equal ones the least number
		mapOf(2, 0, 1, 5, 0, 1, 4, 0, 1, 4, 0, 1, 6),
		mapOf(2, 0, 1, 0, 0, 1, api.MaxWeight, 1, 0, api.MaxWeight, 1, 0, api.MaxWeight-1),
		mapOf(4, 0, 3, 1, 0, 2, 2, 0, 1, 3, 3, 0, 1, 2, 0, 2, 1, 0, 3),     // falling places
		mapOf(4, 1, 3, 9, 0, 1, 1, 1, 3, 8, 0, 1, 0, 1, 3, 8, 3, 3, 0),     // alike ones apart
		mapOf(3, 1, 1, 0, 0, 1, 1, 1, 1, 0, 1, 2, 1, 2, 2, 5, 1, 1, 7),     // loops between
		mapOf(3, 0, 1, 2, 1, 0, 1, 0, 2, 1, 2, 0, 2, 1, 2, 0, 2, 1, 0),     // there and back
		mapOf(5, 4, 0, 1, 3, 0, 1, 2, 0, 1, 1, 0, 1, 4, 0, 0, 0, 0, 1<<31), // many to one
	} {
		wantGraph(t, build(t, m), m)
	}
}

func TestRandomMaps(t *testing.T) {
	r := rand.New(rand.NewSource(1))
	for range 1500 {
		m := randomMap(r)
		wantGraph(t, build(t, m), m)
	}
}

// What is Out of one is In of the other.
func TestBothSides(t *testing.T) {
	r := rand.New(rand.NewSource(2))
	for range 300 {
		m := randomMap(r)
		g := build(t, m)
		outs, ins := 0, 0
		for u := range m.N {
			for _, e := range g.Out(u) {
				if !slices.Contains(g.In(e.V), api.Edge{V: u, W: e.W, Arc: e.Arc}) {
					t.Errorf("%v: %v of Out(%d) is not in In(%d): %v", m, e, u, e.V, g.In(e.V))
				}
			}
			outs += len(g.Out(u))
			ins += len(g.In(u))
		}
		if many := len(g.Kept()); outs != many || ins != many {
			t.Errorf("%v: %d are Out, %d In, %d kept", m, outs, ins, many)
		}
	}
}

func TestMapsThatMayNotBe(t *testing.T) {
	for _, m := range []api.Map{
		{N: -1}, {N: math.MinInt}, {N: api.MaxVertex + 1}, {N: math.MaxInt},
		mapOf(0, 0, 0, 0), mapOf(-1, 0, 0, 0),
		mapOf(2, 2, 0, 1), mapOf(2, 0, 2, 1), mapOf(2, -1, 0, 1), mapOf(2, 0, -1, 1),
		mapOf(2, math.MaxInt, 0, 1), mapOf(2, 0, math.MinInt, 1),
		mapOf(2, 0, 1, -1), mapOf(2, 0, 1, api.MaxWeight+1), mapOf(2, 0, 1, math.MaxInt), mapOf(2, 0, 1, math.MinInt),
		mapOf(2, 0, 1, 1, 1, 0, 1, 0, 0, -1), // the last one alone
	} {
		if g := graph.New(m); g != nil {
			t.Errorf("New of %d places, %d arcs: %d places", m.N, len(m.Arcs), g.N())
		}
	}
}

func TestNoPlace(t *testing.T) {
	g := build(t, mapOf(3, 0, 1, 1, 1, 2, 2, 2, 0, 3))
	for _, v := range []int{math.MinInt, math.MinInt + 1, -2, -1, 3, 4, 1 << 40, math.MaxInt - 1, math.MaxInt} {
		if out, in := g.Out(v), g.In(v); len(out) != 0 || len(in) != 0 {
			t.Errorf("of %d: Out %v, In %v", v, out, in)
		}
		for u := range 3 {
			wantBest(t, g, u, v, api.Edge{}, false)
			wantBest(t, g, v, u, api.Edge{}, false)
		}
		wantBest(t, g, v, v, api.Edge{}, false)
	}
}

// Best of a loop is nothing: no loop is kept.
func TestBestOfLoops(t *testing.T) {
	g := build(t, mapOf(3, 1, 1, 0, 0, 1, 4, 1, 2, 5))
	wantBest(t, g, 1, 1, api.Edge{}, false)
	wantBest(t, g, 0, 1, api.Edge{V: 1, W: 4, Arc: 1}, true)
	wantBest(t, g, 1, 2, api.Edge{V: 2, W: 5, Arc: 2}, true)
	wantArc(t, g, 0, api.Arc{From: 1, To: 1}, true)
}

func TestPrint(t *testing.T) {
	maps := []api.Map{
		{}, {N: 1}, {N: 2}, {N: 1 << 20},
		mapOf(2, 0, 1, 7), mapOf(2, 1, 0, 7), mapOf(2, 0, 1, 8), mapOf(3, 0, 1, 7),
		mapOf(2, 0, 1, 7, 0, 1, 7), mapOf(2, 0, 1, 7, 0, 1, 8), mapOf(2, 0, 1, 8, 0, 1, 7), // arcs that are not kept count, and their order
		mapOf(2, 0, 1, 7, 1, 1, 0), mapOf(2, 0, 1, 7, 0, 0, 0), mapOf(2, 0, 1, api.MaxWeight),
	}
	seen := map[uint64]int{}
	for i, m := range maps {
		h := build(t, m).Print()
		if want := modelPrint(m); h != want {
			t.Errorf("Print of %v: %d, want %d", m, h, want)
		}
		if other, is := seen[h]; is {
			t.Errorf("Print of %v is that of %v", m, maps[other])
		}
		seen[h] = i
	}
	if a, b := build(t, mapOf(2, 0, 1, 7)).Print(), build(t, mapOf(2, 0, 1, 7)).Print(); a != b {
		t.Errorf("Print of one map: %d and %d", a, b)
	}
}

func TestNilAndZero(t *testing.T) {
	var none *graph.Graph
	if h := none.Print(); h != 0 {
		t.Error("Print of nil:", h)
	}
	for _, g := range []*graph.Graph{none, {}} {
		if n, l := g.N(), g.Kept(); n != 0 || len(l) != 0 {
			t.Errorf("N %d, Kept %v", n, l)
		}
		for _, v := range []int{math.MinInt, -1, 0, 1, math.MaxInt} {
			if out, in := g.Out(v), g.In(v); len(out) != 0 || len(in) != 0 {
				t.Errorf("of %d: Out %v, In %v", v, out, in)
			}
			wantBest(t, g, v, 0, api.Edge{}, false)
			wantBest(t, g, 0, v, api.Edge{}, false)
			wantArc(t, g, v, api.Arc{}, false)
		}
	}
}

// R2: what is handed in is neither changed nor kept.
func TestMapStaysAndIsNotKept(t *testing.T) {
	m := mapOf(3, 2, 1, 9, 0, 2, 4, 0, 1, 5, 0, 1, 3, 1, 1, 0)
	whole := append(slices.Clone(m.Arcs), api.Arc{From: 2, To: 2, W: 77})
	m.Arcs = slices.Clone(whole)[:5:6]
	first := api.Map{N: 3, Arcs: slices.Clone(m.Arcs)}
	g := build(t, m)
	wantGraph(t, g, first)
	if !slices.Equal(m.Arcs[:6], whole) {
		t.Error("New changed its map:", m.Arcs[:6])
	}
	clear(m.Arcs[:6])
	wantGraph(t, g, first)
}

// R2: what comes out is new memory, and so is the room behind it.
func TestAnswersAreNew(t *testing.T) {
	m := mapOf(4, 0, 1, 1, 0, 2, 2, 0, 3, 3, 1, 2, 4, 2, 3, 5, 3, 0, 6, 1, 0, 7)
	g := build(t, m)
	spoil := func(l []api.Edge) {
		for i := range l[:cap(l)] {
			l[:cap(l)][i] = api.Edge{V: -5, W: -5, Arc: -5}
		}
	}
	for v := range m.N {
		one, two := g.Out(v), g.Out(v)
		spoil(one)
		if !slices.Equal(two, modelEdges(m, v, true)) {
			t.Errorf("Out(%d) shares with another one: %v", v, two)
		}
		one, two = g.In(v), g.In(v)
		spoil(one)
		if !slices.Equal(two, modelEdges(m, v, false)) {
			t.Errorf("In(%d) shares with another one: %v", v, two)
		}
	}
	one, two := g.Kept(), g.Kept()
	clear(one[:cap(one)])
	if !slices.Equal(two, modelKept(m)) {
		t.Error("Kept shares with another one:", two)
	}
	wantGraph(t, g, m)
}

// R4: two graphs know nothing of one another.
func TestTwoGraphs(t *testing.T) {
	r := rand.New(rand.NewSource(3))
	var maps []api.Map
	var graphs []*graph.Graph
	for range 50 {
		maps = append(maps, randomMap(r))
		graphs = append(graphs, build(t, maps[len(maps)-1]))
	}
	for i, g := range graphs {
		wantGraph(t, g, maps[i])
	}
}

func TestAsManyPlacesAsMayBe(t *testing.T) {
	last := api.MaxVertex - 1
	g := build(t, mapOf(api.MaxVertex, last, 0, 3, 0, last, 2, last, last, 0, last, 1, 1))
	if l := g.Out(last); g.N() != api.MaxVertex || !slices.Equal(l, []api.Edge{{V: 0, W: 3, Arc: 0}, {V: 1, W: 1, Arc: 3}}) {
		t.Error("Out:", l)
	}
	if l := g.In(last); !slices.Equal(l, []api.Edge{{V: 0, W: 2, Arc: 1}}) {
		t.Error("In:", l)
	}
	wantBest(t, g, 0, last, api.Edge{V: last, W: 2, Arc: 1}, true)
	wantBest(t, g, 0, last+1, api.Edge{}, false)
	if l := g.Out(last + 1); len(l) != 0 {
		t.Error("Out behind the last:", l)
	}
}

// Many arcs between two places, and many from one, take no time by their square.
func TestMany(t *testing.T) {
	const many = 1 << 19
	m := api.Map{N: many}
	for k := range many {
		m.Arcs = append(m.Arcs, api.Arc{From: 1, To: 2, W: many - k/2})
	}
	for k := range many {
		m.Arcs = append(m.Arcs, api.Arc{From: 0, To: many - 1 - k, W: k})
	}
	g := build(t, m)
	wantBest(t, g, 1, 2, api.Edge{V: 2, W: many/2 + 1, Arc: many - 2}, true)
	out := g.Out(0)
	if len(out) != many-1 || len(g.Out(1)) != 1 || len(g.Kept()) != many {
		t.Fatalf("%d from 0, %d from 1, %d kept", len(out), len(g.Out(1)), len(g.Kept()))
	}
	for i, e := range out {
		if e != (api.Edge{V: i + 1, W: many - 2 - i, Arc: many + many - 2 - i}) {
			t.Fatalf("edge %d: %v", i, e)
		}
	}
	if l := g.In(2); !slices.Equal(l, []api.Edge{{V: 0, W: many - 3, Arc: 2*many - 3}, {V: 1, W: many/2 + 1, Arc: many - 2}}) {
		t.Error("In(2):", l)
	}
	if !slices.IsSorted(g.Kept()) || g.Print() != modelPrint(m) {
		t.Error("Kept or Print")
	}
}

func FuzzGraph(f *testing.F) {
	f.Add(2, []byte{0, 1, 5, 0, 1, 3, 1, 1, 0})
	f.Fuzz(func(t *testing.T, n int, numbers []byte) {
		m := api.Map{N: n % 9}
		for ; len(numbers) >= 3 && len(m.Arcs) < 40; numbers = numbers[3:] {
			m.Arcs = append(m.Arcs, api.Arc{From: int(numbers[0]), To: int(numbers[1]), W: int(int8(numbers[2]))})
		}
		wrong := func(a api.Arc) bool { return a.From >= m.N || a.To >= m.N || a.W < 0 }
		if m.N < 0 || slices.ContainsFunc(m.Arcs, wrong) {
			if g := graph.New(m); g != nil {
				t.Errorf("New(%v) is not nil", m)
			}
			return
		}
		wantGraph(t, build(t, m), m)
	})
}
