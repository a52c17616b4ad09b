package hier_test

import (
	"math"
	"math/rand"
	"slices"
	"testing"

	"postroad/api"
	"postroad/contract"
	"postroad/dist"
	"postroad/graph"
	"postroad/hier"
)

func arc(u int, v int, w int, k int) api.Short {
	return api.Short{From: u, To: v, Way: api.Way{W: w, Mid: api.None, Arc: k}}
}

func by(u int, v int, w int, mid int) api.Short {
	return api.Short{From: u, To: v, Way: api.Way{W: w, Mid: mid, Arc: api.None}}
}

func hierOf(rank []int, ways ...api.Short) api.Hier {
	return api.Hier{Rank: rank, Ways: ways}
}

func copyOf(h api.Hier) api.Hier {
	return api.Hier{Rank: slices.Clone(h.Rank), Ways: slices.Clone(h.Ways)}
}

func newOf(t *testing.T, h api.Hier) *hier.Hier {
	t.Helper()
	x := hier.New(h)
	if x == nil {
		t.Fatalf("New(%v): nil", h)
	}
	return x
}

// modelCheck is the chapter word by word.
func modelCheck(h api.Hier) api.Errno {
	if len(h.Rank) > api.MaxVertex || len(h.Ways) > api.MaxArcs {
		return api.ErrLong
	}
	ranks := slices.Sorted(slices.Values(h.Rank))
	for i, r := range ranks {
		if r != i {
			return api.ErrArg
		}
	}
	for k, s := range h.Ways {
		if !modelWay(h, s) || !modelKind(h, s) {
			return api.ErrArg
		}
		for j, o := range h.Ways {
			if j != k && o.From == s.From && o.To == s.To {
				return api.ErrArg
			}
		}
	}
	return api.OK
}

func modelPlace(h api.Hier, v int) bool { return 0 <= v && v <= len(h.Rank)-1 }

func modelWay(h api.Hier, s api.Short) bool {
	return modelPlace(h, s.From) && modelPlace(h, s.To) && s.From != s.To && s.Way.W >= 0 && s.Way.W <= api.MaxWay
}

// modelKind adds the halves' W: where that wraps round, one of these is no way
// that may be.
func modelKind(h api.Hier, s api.Short) bool {
	if s.Way.Mid == api.None && s.Way.Arc >= 0 && s.Way.Arc <= api.MaxArcs-1 {
		return true
	}
	if s.Way.Arc != api.None || !modelPlace(h, s.Way.Mid) {
		return false
	}
	if low := h.Rank[s.Way.Mid]; low >= h.Rank[s.From] || low >= h.Rank[s.To] {
		return false
	}
	for _, one := range h.Ways {
		for _, two := range h.Ways {
			if one.From == s.From && one.To == s.Way.Mid && two.From == s.Way.Mid && two.To == s.To && one.Way.W+two.Way.W == s.Way.W {
				return true
			}
		}
	}
	return false
}

// modelSide goes over all places that may be at the other end, in order.
func modelSide(h api.Hier, v int, up bool) []api.Edge {
	var l []api.Edge
	for other := range h.Rank {
		for k, s := range h.Ways {
			here, there := s.To, s.From
			if up {
				here, there = s.From, s.To
			}
			if here == v && there == other && h.Rank[there] > h.Rank[here] {
				l = append(l, api.Edge{V: there, W: s.Way.W, Arc: k})
			}
		}
	}
	return l
}

func modelFind(h api.Hier, u int, v int) int {
	return slices.IndexFunc(h.Ways, func(s api.Short) bool { return s.From == u && s.To == v })
}

func wantCheck(t *testing.T, h api.Hier, want api.Errno) {
	t.Helper()
	if e := hier.Check(h); e != want {
		t.Errorf("Check of %v: %d, want %d", h, e, want)
	}
	if x := hier.New(h); (x != nil) != (want == api.OK) {
		t.Errorf("New of %v: %v, Check wants %d", h, x, want)
	}
}

func wantEdges(t *testing.T, what string, v int, got []api.Edge, want ...api.Edge) {
	t.Helper()
	if !slices.Equal(got, want) {
		t.Errorf("%s of %d: %v, want %v", what, v, got, want)
	}
}

func wantRank(t *testing.T, x *hier.Hier, v int, want int) {
	t.Helper()
	if r := x.Rank(v); r != want {
		t.Errorf("Rank(%d): %d, want %d", v, r, want)
	}
}

func wantAt(t *testing.T, x *hier.Hier, rank int, want int) {
	t.Helper()
	if v := x.At(rank); v != want {
		t.Errorf("At(%d): %d, want %d", rank, v, want)
	}
}

func wantFind(t *testing.T, x *hier.Hier, u int, v int, want int) {
	t.Helper()
	if k := x.Find(u, v); k != want {
		t.Errorf("Find(%d, %d): %d, want %d", u, v, k, want)
	}
}

func wantWay(t *testing.T, x *hier.Hier, k int, want api.Short, there bool) {
	t.Helper()
	if s, is := x.Way(k); s != want || is != there {
		t.Errorf("Way(%d): %v %v, want %v %v", k, s, is, want, there)
	}
}

func wantHalves(t *testing.T, x *hier.Hier, k int, one int, two int, there bool) {
	t.Helper()
	if a, b, is := x.Halves(k); a != one || b != two || is != there {
		t.Errorf("Halves(%d): %d %d %v, want %d %d %v", k, a, b, is, one, two, there)
	}
}

// wrong is numbers that are neither one of n places, nor one of n ranks or ways.
func wrong(n int) []int {
	return []int{math.MinInt, math.MinInt32, -n - 1, -2, -1, n, n + 1, 2*n + 1, api.MaxVertex, api.MaxArcs, math.MaxInt32, 1 << 32, math.MaxInt}
}

// wantNothing asks of what is not there.
func wantNothing(t *testing.T, x *hier.Hier, places []int, ways []int) {
	t.Helper()
	for _, v := range places {
		wantRank(t, x, v, -1)
		wantAt(t, x, v, -1)
		wantEdges(t, "Up", v, x.Up(v))
		wantEdges(t, "Down", v, x.Down(v))
		for _, u := range append(places, 0, 1) {
			wantFind(t, x, u, v, -1)
			wantFind(t, x, v, u, -1)
		}
	}
	for _, k := range ways {
		wantWay(t, x, k, api.Short{}, false)
		wantHalves(t, x, k, 0, 0, false)
	}
}

// wantAll holds everything that x tells against h.
func wantAll(t *testing.T, x *hier.Hier, h api.Hier) {
	t.Helper()
	n := len(h.Rank)
	if x.N() != n {
		t.Errorf("N: %d, want %d", x.N(), n)
	}
	for v, r := range h.Rank {
		wantRank(t, x, v, r)
		wantAt(t, x, r, v)
		wantEdges(t, "Up", v, x.Up(v), modelSide(h, v, true)...)
		wantEdges(t, "Down", v, x.Down(v), modelSide(h, v, false)...)
		for u := range n {
			wantFind(t, x, u, v, modelFind(h, u, v))
		}
	}
	for k, s := range h.Ways {
		wantWay(t, x, k, s, true)
		if s.Way.Mid == api.None {
			wantHalves(t, x, k, 0, 0, false)
		} else {
			wantHalves(t, x, k, modelFind(h, s.From, s.Way.Mid), modelFind(h, s.Way.Mid, s.To), true)
		}
	}
	wantNothing(t, x, wrong(n), wrong(len(h.Ways)))
	if t.Failed() {
		t.Fatalf("of %v", h)
	}
}

// wantHolds is the chapter's 'What holds': ways up rise, halves are lower and
// make up the whole; and no way is on both sides, or on none.
func wantHolds(t *testing.T, x *hier.Hier, ways int) {
	t.Helper()
	sides := 0
	for v := range x.N() {
		for i, l := range [][]api.Edge{x.Up(v), x.Down(v)} {
			sides += len(l)
			for _, e := range l {
				s, _ := x.Way(e.Arc)
				ends := [][2]int{{v, e.V}, {e.V, v}}[i]
				if x.Rank(e.V) <= x.Rank(v) || ends != [2]int{s.From, s.To} || s.Way.W != e.W {
					t.Fatalf("%v of %d, which is %v", e, v, s)
				}
			}
		}
	}
	if sides != ways {
		t.Fatalf("%d ways, but %d up and down", ways, sides)
	}
	for k := range ways {
		wantWhole(t, x, k)
	}
}

func wantWhole(t *testing.T, x *hier.Hier, k int) {
	t.Helper()
	a, b, is := x.Halves(k)
	s, _ := x.Way(k)
	if !is {
		if s.Way.Mid != api.None {
			t.Fatalf("%v has no halves", s)
		}
		return
	}
	one, _ := x.Way(a)
	two, _ := x.Way(b)
	if one.From != s.From || one.To != two.From || two.To != s.To || one.Way.W+two.Way.W != s.Way.W {
		t.Fatalf("%v of %v and %v", s, one, two)
	}
	if low := x.Rank(one.To); low >= x.Rank(s.From) || low >= x.Rank(s.To) {
		t.Fatalf("%v leads by a place that is not lower", s)
	}
}

// randomHier may be: some arcs, and wholes of two ways by a lower place, again
// and again, in any order.
func randomHier(r *rand.Rand, most int) api.Hier {
	h := api.Hier{Rank: r.Perm(1 + r.Intn(most))}
	n := len(h.Rank)
	long := []int{1, 3, 100, 1 << 40}[r.Intn(4)]
	for range r.Intn(3 * n) {
		if u, v := r.Intn(n), r.Intn(n); u != v && modelFind(h, u, v) < 0 {
			h.Ways = append(h.Ways, arc(u, v, r.Intn(long), r.Intn(api.MaxArcs)))
		}
	}
	for range 8 * len(h.Ways) {
		one, two := h.Ways[r.Intn(len(h.Ways))], h.Ways[r.Intn(len(h.Ways))]
		if one.To != two.From || one.From == two.To || modelFind(h, one.From, two.To) >= 0 {
			continue
		}
		if low := h.Rank[one.To]; low < h.Rank[one.From] && low < h.Rank[two.To] {
			h.Ways = append(h.Ways, by(one.From, two.To, one.Way.W+two.Way.W, one.To))
		}
	}
	r.Shuffle(len(h.Ways), func(i int, j int) { h.Ways[i], h.Ways[j] = h.Ways[j], h.Ways[i] })
	return h
}

// spoil changes one number, or one way; what comes of it may still be.
func spoil(r *rand.Rand, h api.Hier) {
	if len(h.Ways) == 0 || r.Intn(6) == 0 {
		h.Rank[r.Intn(len(h.Rank))] += r.Intn(3) - 1
		return
	}
	s := &h.Ways[r.Intn(len(h.Ways))]
	place := r.Intn(len(h.Rank)+2) - 1
	switch r.Intn(8) {
	case 0:
		s.From = place
	case 1:
		s.To = place
	case 2:
		s.Way.Mid = place
	case 3:
		s.Way.Arc = []int{api.None, 0, api.MaxArcs}[r.Intn(3)]
	case 4:
		s.Way.W += r.Intn(3) - 1
	case 5:
		s.From, s.To = s.To, s.From
	case 6:
		*s = h.Ways[r.Intn(len(h.Ways))]
	case 7:
		s.Way.Mid, s.Way.Arc = api.None, r.Intn(3)-1
	}
}

func TestExample(t *testing.T) {
	x := newOf(t, hierOf([]int{1, 0}, arc(0, 1, 5, 0)))
	wantEdges(t, "Down", 1, x.Down(1), api.Edge{V: 0, W: 5, Arc: 0})
	wantEdges(t, "Up", 0, x.Up(0))
	wantEdges(t, "Up", 1, x.Up(1))
	wantEdges(t, "Down", 0, x.Down(0))
}

// seven has ways up and down at most places, laid in no order, wholes ahead of
// their halves, and wholes of wholes.
func seven() api.Hier {
	return hierOf([]int{4, 0, 6, 2, 5, 1, 3},
		by(0, 2, 17, 3), // of 6 and 4
		arc(4, 2, 9, 11), arc(4, 0, 2, api.MaxArcs-1), arc(0, 1, 3, 0),
		by(3, 2, 11, 5), // of 7 and 8
		arc(1, 6, 1, 5), arc(0, 3, 6, 3), arc(3, 5, 4, 1), arc(5, 2, 7, 2), arc(2, 5, 0, 2),
		by(0, 6, 4, 1), // of 3 and 5
		arc(2, 4, 8, 4), arc(3, 0, 6, 4),
	)
}

func TestSeven(t *testing.T) {
	x := newOf(t, seven())
	wantEdges(t, "Up", 0, x.Up(0), api.Edge{V: 2, W: 17, Arc: 0})
	wantEdges(t, "Up", 1, x.Up(1), api.Edge{V: 6, W: 1, Arc: 5})
	wantEdges(t, "Up", 2, x.Up(2))
	wantEdges(t, "Up", 3, x.Up(3), api.Edge{V: 0, W: 6, Arc: 12}, api.Edge{V: 2, W: 11, Arc: 4})
	wantEdges(t, "Up", 4, x.Up(4), api.Edge{V: 2, W: 9, Arc: 1})
	wantEdges(t, "Down", 0, x.Down(0), api.Edge{V: 4, W: 2, Arc: 2})
	wantEdges(t, "Down", 1, x.Down(1), api.Edge{V: 0, W: 3, Arc: 3})
	wantEdges(t, "Down", 2, x.Down(2))
	wantEdges(t, "Down", 5, x.Down(5), api.Edge{V: 2, W: 0, Arc: 9}, api.Edge{V: 3, W: 4, Arc: 7})
	wantEdges(t, "Down", 6, x.Down(6), api.Edge{V: 0, W: 4, Arc: 10})
	wantHalves(t, x, 0, 6, 4, true)
	wantHalves(t, x, 4, 7, 8, true)
	wantHalves(t, x, 10, 3, 5, true)
	wantHalves(t, x, 1, 0, 0, false)
	wantFind(t, x, 2, 5, 9)
	wantFind(t, x, 5, 2, 8)
	wantFind(t, x, 6, 0, -1)
	wantAll(t, x, seven())
	wantHolds(t, x, 13)
}

func TestEmptyAndOne(t *testing.T) {
	for _, h := range []api.Hier{{}, {Rank: []int{}, Ways: []api.Short{}}, {Rank: []int{0}}, {Rank: []int{2, 0, 1}}} {
		wantCheck(t, h, api.OK)
		wantAll(t, newOf(t, h), h)
	}
}

func TestRanksThatMayNotBe(t *testing.T) {
	for _, rank := range [][]int{
		{1}, {-1}, {math.MinInt}, {math.MaxInt},
		{0, 0}, {1, 1}, {1, 2}, {0, 2}, {0, -1}, {-1, 0}, {0, math.MaxInt}, // one twice, one none
		{0, 1, 2, 2}, {3, 1, 2, 1}, {0, 1, 2, 4}, {4, 3, 2, 1}, {0, 1, 2, -1}, {0, 1, 2, 1 << 32},
	} {
		wantCheck(t, hierOf(rank), api.ErrArg)
	}
	wantCheck(t, hierOf([]int{3, 1, 2, 0}), api.OK)
	wantCheck(t, hierOf([]int{0, 1, 1}, arc(0, 1, 3, 3)), api.ErrArg)
}

func TestEndsThatMayNotBe(t *testing.T) {
	rank := []int{2, 0, 1}
	wantCheck(t, hierOf(rank, arc(0, 2, 1, 0), arc(2, 0, 1, 0), arc(2, 1, 1, 0)), api.OK) // there and back are two
	for _, v := range wrong(3) {
		wantCheck(t, hierOf(rank, arc(0, v, 1, 0)), api.ErrArg)
		wantCheck(t, hierOf(rank, arc(v, 0, 1, 0)), api.ErrArg)
		wantCheck(t, hierOf(rank, arc(v, v, 1, 0)), api.ErrArg)
		wantCheck(t, hierOf(nil, arc(v, 0, 1, 0)), api.ErrArg)
		wantCheck(t, hierOf(rank, arc(0, 1, 1, 0), arc(1, 2, 1, 1), arc(2, v, 1, 2)), api.ErrArg)
	}
	for v := range rank {
		wantCheck(t, hierOf(rank, arc(v, v, 1, 0)), api.ErrArg)
	}
	for _, again := range []api.Short{arc(0, 1, 5, 3), arc(0, 1, 6, 3), arc(0, 1, 5, 4), arc(2, 0, 8, 4), by(2, 1, 2, 1)} {
		wantCheck(t, hierOf(rank, arc(0, 1, 5, 3), arc(1, 2, 1, 2), arc(2, 0, 7, 5), arc(2, 1, 2, 6), again), api.ErrArg)
	}
}

// A whole beside an arc with the same ends: one of them is too many.
func TestWholeAndArcOfTheSameEnds(t *testing.T) {
	rank := []int{1, 0, 2}
	one, two := arc(0, 1, 3, 0), arc(1, 2, 4, 1)
	wantCheck(t, hierOf(rank, one, two, by(0, 2, 7, 1)), api.OK)
	wantCheck(t, hierOf(rank, one, two, arc(0, 2, 7, 2)), api.OK)
	wantCheck(t, hierOf(rank, one, two, by(0, 2, 7, 1), arc(0, 2, 7, 2)), api.ErrArg)
	wantCheck(t, hierOf(rank, one, two, by(0, 2, 7, 1), by(0, 2, 7, 1)), api.ErrArg)
	wantCheck(t, hierOf(rank, one, two, by(0, 2, 7, 1), two), api.ErrArg)
}

func TestLengths(t *testing.T) {
	for w, e := range map[int]api.Errno{
		0: api.OK, 1: api.OK, api.MaxWay - 1: api.OK, api.MaxWay: api.OK, api.MaxWeight + 1: api.OK,
		-1: api.ErrArg, math.MinInt: api.ErrArg, api.MaxWay + 1: api.ErrArg, math.MaxInt: api.ErrArg,
	} {
		wantCheck(t, hierOf([]int{1, 0}, arc(0, 1, w, 0)), e)
		wantCheck(t, hierOf([]int{0, 1}, arc(0, 1, w, 0)), e)
	}
	for _, c := range []struct {
		one, two, both int
		e              api.Errno
	}{
		{0, 0, 0, api.OK}, {0, 0, 1, api.ErrArg}, {0, 1, 0, api.ErrArg},
		{3, 4, 7, api.OK}, {3, 4, 6, api.ErrArg}, {3, 4, 8, api.ErrArg}, {3, 4, 3, api.ErrArg}, {3, 4, 4, api.ErrArg},
		{api.MaxWay / 2, api.MaxWay / 2, api.MaxWay, api.OK}, {api.MaxWay, 0, api.MaxWay, api.OK}, {1, api.MaxWay - 1, api.MaxWay, api.OK},
		{api.MaxWay, 1, api.MaxWay + 1, api.ErrArg}, {api.MaxWay, api.MaxWay, 2 * api.MaxWay, api.ErrArg}, {api.MaxWay, api.MaxWay, api.MaxWay, api.ErrArg},
		{math.MaxInt, math.MaxInt, -2, api.ErrArg}, {math.MinInt, math.MinInt, 0, api.ErrArg}, {math.MaxInt, math.MinInt, -1, api.ErrArg}, // sums that wrap round
		{-1, 1, 0, api.ErrArg}, {5, -2, 3, api.ErrArg},
	} {
		ways := []api.Short{arc(0, 1, c.one, 0), arc(1, 2, c.two, 1), by(0, 2, c.both, 1)}
		wantCheck(t, hierOf([]int{1, 0, 2}, ways...), c.e)
		slices.Reverse(ways)
		wantCheck(t, hierOf([]int{2, 0, 1}, ways...), c.e)
	}
}

func TestArcs(t *testing.T) {
	for _, c := range []struct {
		k int
		e api.Errno
	}{
		{0, api.OK}, {1, api.OK}, {api.MaxArcs - 1, api.OK}, {api.MaxVertex + 1, api.OK},
		{api.MaxArcs, api.ErrArg}, {api.None, api.ErrArg}, {-2, api.ErrArg}, {math.MinInt, api.ErrArg}, {math.MaxInt, api.ErrArg}, {1 << 32, api.ErrArg},
	} {
		wantCheck(t, hierOf([]int{1, 0}, arc(0, 1, 4, c.k)), c.e)
		whole := by(0, 2, 7, 1)
		whole.Way.Arc = c.k // of a whole it has to be None
		e := api.ErrArg
		if c.k == api.None {
			e = api.OK
		}
		wantCheck(t, hierOf([]int{1, 0, 2}, arc(0, 1, 3, 0), arc(1, 2, 4, 0), whole), e)
	}
	wantCheck(t, hierOf([]int{0, 1, 2}, arc(0, 1, 4, 7), arc(1, 2, 4, 7)), api.OK) // that two ways are one arc is not ruled out
}

func TestMids(t *testing.T) {
	rank := []int{3, 0, 4, 5, 1, 2}
	ways := []api.Short{
		arc(0, 1, 3, 0), arc(1, 2, 4, 1), arc(0, 3, 3, 2), arc(3, 2, 4, 3), arc(4, 5, 3, 4), arc(5, 0, 4, 5),
		arc(2, 1, 4, 6), arc(0, 5, 3, 7), arc(5, 4, 4, 8), arc(1, 5, 4, 9), arc(0, 4, 3, 10),
	}
	wantCheck(t, hierOf(rank, ways...), api.OK)
	for _, c := range []struct {
		s api.Short
		e api.Errno
	}{
		{by(0, 2, 7, 1), api.OK},
		{by(0, 2, 7, 3), api.ErrArg}, // above both
		{by(4, 0, 7, 5), api.ErrArg}, // above its From
		{by(2, 5, 8, 1), api.OK},
		{by(2, 5, 8, 0), api.ErrArg},                                                             // above its To, and no ways
		{by(0, 2, 7, 0), api.ErrArg}, {by(0, 2, 7, 2), api.ErrArg}, {by(2, 0, 4, 0), api.ErrArg}, // one of both ends
		{by(0, 2, 7, 4), api.ErrArg}, {by(0, 2, 3, 4), api.ErrArg}, // there is but the first half
		{by(3, 5, 4, 1), api.ErrArg}, {by(3, 2, 4, 1), api.ErrArg}, // there is but the second one
		{by(2, 0, 7, 1), api.ErrArg},                                                              // its second half leads the other way
		{by(2, 3, 0, 1), api.ErrArg}, {by(2, 3, 0, 4), api.ErrArg}, {by(2, 3, -2, 4), api.ErrArg}, // none
	} {
		wantCheck(t, hierOf(rank, append(slices.Clone(ways), c.s)...), c.e)
		wantCheck(t, hierOf(rank, append([]api.Short{c.s}, ways...)...), c.e)
	}
	for _, mid := range wrong(6) {
		wantCheck(t, hierOf(rank, append(slices.Clone(ways), by(0, 2, 7, mid))...), api.ErrArg)
	}
	wantCheck(t, hierOf([]int{2, 1, 0}, arc(0, 1, 1, 0), arc(1, 2, 1, 1), by(0, 2, 2, 1)), api.ErrArg) // below its From alone
	wantCheck(t, hierOf([]int{0, 1, 2}, arc(0, 1, 1, 0), arc(1, 2, 1, 1), by(0, 2, 2, 1)), api.ErrArg) // below its To alone
}

// Ways that stand for each other, or for themselves, are no ways.
func TestWholesAlone(t *testing.T) {
	for _, ways := range [][]api.Short{
		{by(0, 1, 0, 2)}, {by(0, 1, 0, 0)}, {by(0, 1, 0, 1)},
		{by(0, 1, 0, 2), by(0, 2, 0, 1), by(2, 1, 0, 0)},
		{by(0, 2, 0, 1), by(2, 1, 0, 0), by(0, 1, 0, 2), arc(1, 2, 0, 0)},
	} {
		for _, rank := range [][]int{{0, 1, 2}, {2, 1, 0}, {1, 2, 0}, {2, 0, 1}, {0, 2, 1}, {1, 0, 2}} {
			wantCheck(t, hierOf(rank, ways...), api.ErrArg)
		}
	}
}

// One thing that is wrong is told wherever it stands, whatever stands behind it.
func TestEachWayIsLookedAt(t *testing.T) {
	for k := range seven().Ways {
		for _, change := range []func(*api.Short){
			func(s *api.Short) { s.From = -1 }, func(s *api.Short) { s.To = 7 }, func(s *api.Short) { s.To = s.From },
			func(s *api.Short) { s.Way.W = -1 }, func(s *api.Short) { s.Way.W = api.MaxWay + 1 },
			func(s *api.Short) { s.Way.Mid, s.Way.Arc = -2, 0 }, func(s *api.Short) { s.Way.Mid, s.Way.Arc = 7, api.None },
			func(s *api.Short) { s.Way.Mid, s.Way.Arc = api.None, api.None }, func(s *api.Short) { s.Way.Mid, s.Way.Arc = 1, 1 },
			func(s *api.Short) { s.Way.Mid, s.Way.Arc = api.None, api.MaxArcs }, func(s *api.Short) { s.Way.Mid, s.Way.Arc = s.From, api.None },
		} {
			h := seven()
			change(&h.Ways[k])
			wantCheck(t, h, api.ErrArg)
		}
	}
	for k := range seven().Ways { // a half that is gone, or longer
		h := seven()
		h.Ways[k].Way.W++
		wantCheck(t, h, modelCheck(h))
		h = seven()
		h.Ways = slices.Delete(h.Ways, k, k+1)
		wantCheck(t, h, modelCheck(h))
	}
}

func TestAnyHierarchy(t *testing.T) {
	r := rand.New(rand.NewSource(1))
	for range 400 {
		h := randomHier(r, 9)
		wantCheck(t, h, api.OK)
		x := newOf(t, h)
		wantAll(t, x, h)
		wantHolds(t, x, len(h.Ways))
	}
}

func TestSpoiltHierarchies(t *testing.T) {
	r := rand.New(rand.NewSource(2))
	told := map[api.Errno]int{}
	for range 4000 {
		h := randomHier(r, 7)
		for range 1 + r.Intn(2) {
			spoil(r, h)
		}
		e := modelCheck(h)
		told[e]++
		wantCheck(t, h, e)
		if e == api.OK {
			wantAll(t, newOf(t, h), h)
		}
	}
	if told[api.OK] < 100 || told[api.ErrArg] < 1000 {
		t.Errorf("of too few kinds: %v", told)
	}
}

func FuzzCheck(f *testing.F) {
	f.Add([]byte{1, 0, 2}, []byte{0, 1, 3, 255, 0, 1, 2, 4, 255, 1, 0, 2, 7, 1, 255})
	f.Add([]byte{1, 0, 2}, []byte{0, 1, 3, 255, 0, 1, 2, 4, 255, 1, 0, 2, 7, 1, 1})
	f.Add([]byte{0, 1}, []byte{0, 1, 0, 255, 0, 1, 0, 0, 255, 0})
	f.Add([]byte{}, []byte{})
	f.Fuzz(func(t *testing.T, ranks []byte, ways []byte) {
		var h api.Hier
		for _, r := range ranks {
			h.Rank = append(h.Rank, int(int8(r)))
		}
		for ; len(ways) >= 5; ways = ways[5:] {
			way := api.Way{W: int(int8(ways[2])), Mid: int(int8(ways[3])), Arc: int(int8(ways[4]))}
			h.Ways = append(h.Ways, api.Short{From: int(int8(ways[0])), To: int(int8(ways[1])), Way: way})
		}
		e := modelCheck(h)
		wantCheck(t, h, e)
		if e == api.OK {
			wantAll(t, hier.New(h), h)
		}
	})
}

// climbs is how far each place is from s by climbs, as next goes on.
func climbs(n int, s int, next func(int) []api.Edge) []int {
	l := slices.Repeat([]int{api.Far}, n)
	l[s] = 0
	for open := []int{s}; len(open) > 0; open = open[1:] {
		v := open[0]
		for _, e := range next(v) {
			if d := l[v] + e.W; l[e.V] == api.Far || d < l[e.V] {
				l[e.V] = d
				open = append(open, e.V)
			}
		}
	}
	return l
}

// How far it is stays (P4): a climb up and one down that meet are as short as
// all walks of the map.
func TestBuiltHierarchies(t *testing.T) {
	r := rand.New(rand.NewSource(3))
	for range 150 {
		m := api.Map{N: 1 + r.Intn(14)}
		for range r.Intn(4 * m.N) {
			m.Arcs = append(m.Arcs, api.Arc{From: r.Intn(m.N), To: r.Intn(m.N), W: r.Intn(9)})
		}
		g := graph.New(m)
		h := contract.Build(g)
		wantCheck(t, h, api.OK)
		x := newOf(t, h)
		wantAll(t, x, h)
		wantHolds(t, x, len(h.Ways))
		for s := range m.N {
			up, fars := climbs(m.N, s, x.Up), dist.From(g, s)
			for e := range m.N {
				if d := meet(up, climbs(m.N, e, x.Down)); d != fars[e] {
					t.Fatalf("from %d to %d: %d, want %d, of %v", s, e, d, fars[e], m)
				}
			}
		}
	}
}

func meet(up []int, down []int) int {
	least := api.Far
	for v, d := range up {
		if d != api.Far && down[v] != api.Far && (least == api.Far || d+down[v] < least) {
			least = d + down[v]
		}
	}
	return least
}

func TestNilAndZero(t *testing.T) {
	var none *hier.Hier
	for _, x := range []*hier.Hier{none, {}} {
		if x.N() != 0 {
			t.Error("N:", x.N())
		}
		wantNothing(t, x, append(wrong(0), 0, 1), append(wrong(0), 0, 1))
	}
}

// R2: what is handed in is neither changed nor kept.
func TestWhatIsHandedIn(t *testing.T) {
	h, want := seven(), seven()
	h.Ways = append(h.Ways, arc(9, 9, 9, 9))[:len(h.Ways)] // room behind the row
	hier.Check(h)
	x := newOf(t, h)
	if !slices.Equal(h.Rank, want.Rank) || !slices.Equal(h.Ways, want.Ways) || h.Ways[:len(h.Ways)+1][len(h.Ways)] != arc(9, 9, 9, 9) {
		t.Fatalf("it is changed: %v", h)
	}
	for v := range h.Rank {
		h.Rank[v] = -9
	}
	for k := range h.Ways {
		h.Ways[k] = arc(-9, -9, -9, -9)
	}
	wantAll(t, x, want)
	wantHolds(t, x, len(want.Ways))
}

// R2: what comes out is new memory, and so is the room behind it.
func TestAnswersAreNew(t *testing.T) {
	h := seven()
	x := newOf(t, h)
	for v := range x.N() {
		for _, ask := range []func(int) []api.Edge{x.Up, x.Down} {
			one, two := ask(v), ask(v)
			was := slices.Clone(two)
			one = one[:cap(one)]
			for i := range one {
				one[i] = api.Edge{V: -5, W: -5, Arc: -5}
			}
			wantEdges(t, "what came out", v, two, was...)
			wantAll(t, x, h)
		}
	}
}

// R4: two of one hierarchy, or of several, know nothing of one another.
func TestTwo(t *testing.T) {
	h := seven()
	x := newOf(t, h)
	other := copyOf(h)
	other.Ways = other.Ways[1:]
	slices.Reverse(other.Ways)
	y := newOf(t, other)
	l := x.Up(3)
	l[0].W = 99
	wantAll(t, y, other)
	wantAll(t, newOf(t, h), h)
	wantAll(t, x, h)
	if hier.New(api.Hier{Rank: []int{3}}) != nil {
		t.Error("New of what may not be")
	}
	wantAll(t, x, h)
}

// The order in which a map tells its keys must not be seen.
func TestAskedAgain(t *testing.T) {
	r := rand.New(rand.NewSource(4))
	h := randomHier(r, 40)
	for range 10 {
		wantCheck(t, h, api.OK)
		wantAll(t, newOf(t, h), h)
	}
}

func TestAsMuchAsMayBe(t *testing.T) {
	const n = api.MaxVertex
	rank := make([]int, n+1)
	for v := range rank {
		rank[v] = n - 1 - v // the last one is below 0
	}
	wantLong := func(h api.Hier, want api.Errno) {
		t.Helper()
		if e := hier.Check(h); e != want || want != api.OK && hier.New(h) != nil {
			t.Errorf("Check of %d and %d: %d, want %d", len(h.Rank), len(h.Ways), e, want)
		}
	}
	wantLong(hierOf(rank), api.ErrLong) // ahead of the rank that may not be
	wantLong(hierOf(make([]int, n)), api.ErrArg)
	h := hierOf(rank[:n], arc(0, n-1, 3, 0), arc(n-1, 1, 4, 1), by(0, 1, 7, n-1))
	wantLong(h, api.OK)
	x := newOf(t, h)
	wantRank(t, x, n-1, 0)
	wantAt(t, x, n-1, 0)
	wantEdges(t, "Down", n-1, x.Down(n-1), api.Edge{V: 0, W: 3, Arc: 0})
	wantEdges(t, "Up", n-1, x.Up(n-1), api.Edge{V: 1, W: 4, Arc: 1})
	wantHalves(t, x, 2, 0, 1, true)
	wantNothing(t, x, wrong(n), wrong(3))
}

func TestAsManyWaysAsMayBe(t *testing.T) {
	ways := make([]api.Short, api.MaxArcs+1)
	for _, rank := range [][]int{nil, {0}, {1, 0}, {7}} {
		if e := hier.Check(api.Hier{Rank: rank, Ways: ways}); e != api.ErrLong {
			t.Errorf("Check of one way above: %d", e)
		}
		if e := hier.Check(api.Hier{Rank: rank, Ways: ways[:api.MaxArcs]}); e != api.ErrArg {
			t.Errorf("Check of as many ways as may be, that may not be: %d", e)
		}
	}
	if hier.New(api.Hier{Ways: ways}) != nil {
		t.Error("New of one way above")
	}
}

// A place that all ways lead to, or from: so many that a way of asking each pair
// would not end soon.
func TestStar(t *testing.T) {
	const n = 100000
	h := api.Hier{Rank: []int{n}}
	var up, down []api.Edge
	for v := 1; v <= n; v++ {
		h.Rank = append(h.Rank, n-v)
		u := n + 1 - v
		h.Ways = append(h.Ways, arc(0, u, u, 2*v), arc(u, 0, v, 2*v+1))
	}
	high := copyOf(h)
	wantCheckOf(t, high)
	x := newOf(t, high)
	wantEdges(t, "Up", n, x.Up(n), api.Edge{V: 0, W: 1, Arc: 1})
	wantEdges(t, "Down", 1, x.Down(1), api.Edge{V: 0, W: 1, Arc: 2*n - 2})
	for v := range h.Rank { // now 0 is the lowest
		h.Rank[v] = n - h.Rank[v]
	}
	for v := 1; v <= n; v++ {
		up = append(up, api.Edge{V: v, W: v, Arc: 2 * (n - v)})
		down = append(down, api.Edge{V: v, W: n + 1 - v, Arc: 2*(n-v) + 1})
	}
	x = newOf(t, h)
	if !slices.Equal(x.Up(0), up) || !slices.Equal(x.Down(0), down) {
		t.Error("the star's middle")
	}
}

func wantCheckOf(t *testing.T, h api.Hier) {
	t.Helper()
	if e := hier.Check(h); e != api.OK {
		t.Fatalf("Check of %d and %d: %d", len(h.Rank), len(h.Ways), e)
	}
}

// Wholes of wholes, as deep as there are places: a way of opening each of them
// down to its arcs would not end soon.
func TestDeepWholes(t *testing.T) {
	const n = 100000
	h := api.Hier{}
	for v := range n {
		h.Rank = append(h.Rank, (v+n-1)%n) // the last rank is 0's
	}
	for v := 1; v < n; v++ {
		h.Ways = append(h.Ways, arc(v-1, v, 1, v))
	}
	for v := 2; v < n; v++ {
		h.Ways = append(h.Ways, by(0, v, v, v-1))
	}
	wantCheckOf(t, h)
	x := newOf(t, h)
	wantHolds(t, x, len(h.Ways))
	wantHalves(t, x, len(h.Ways)-1, len(h.Ways)-2, n-2, true)
	h.Ways[0].Way.W = 0
	if e := hier.Check(h); e != api.ErrArg {
		t.Errorf("Check of a whole that is longer than its halves: %d", e)
	}
}
