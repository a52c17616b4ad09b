package hier

import (
	"cmp"
	"slices"

	"postroad/api"
)

// rows are the edges of all places, those of place v from cuts[v] on, up to
// cuts[v+1].
type rows struct {
	edges []api.Edge
	cuts  []int
}

func from(s api.Short) int { return s.From }

func to(s api.Short) int { return s.To }

// side is the ways of which one end is lower than the other one, as they are
// seen from the lower end. Each cut is a place's end first; as edges are laid,
// it goes down to the place's begin.
func (k *known) side(low func(api.Short) int, high func(api.Short) int) rows {
	rises := func(s api.Short) bool { return k.isBelow(low(s), high(s)) }
	cuts := make([]int, len(k.rank)+1)
	for _, s := range k.ways {
		if rises(s) {
			cuts[low(s)]++
		}
	}
	for v := range k.rank {
		cuts[v+1] += cuts[v]
	}
	edges := make([]api.Edge, cuts[len(k.rank)])
	for i, s := range k.ways {
		if rises(s) {
			cuts[low(s)]--
			edges[cuts[low(s)]] = api.Edge{V: high(s), W: s.W, Arc: i}
		}
	}
	for v := range k.rank {
		row := edges[cuts[v]:cuts[v+1]]
		slices.SortFunc(row, func(a api.Edge, b api.Edge) int { return cmp.Compare(a.V, b.V) })
	}
	return rows{edges: edges, cuts: cuts}
}

// of is the edges of a place.
func (r rows) of(v int) []api.Edge {
	row := make([]api.Edge, r.cuts[v+1]-r.cuts[v])
	copy(row, r.edges[r.cuts[v]:])
	return row
}
