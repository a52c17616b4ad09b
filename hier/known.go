package hier

import "postroad/api"

// ends are where a way begins and where it leads.
type ends struct {
	from int
	to   int
}

// known is what was found of a hierarchy when it was looked through.
type known struct {
	rank    []int
	at      []int // the place of each rank
	ways    []api.Short
	numbers map[ends]int // which of the ways has these ends
}

// look tells what is known of a hierarchy, or what is wrong with it. What is
// known shares the hierarchy's lists.
func look(h api.Hier) (known, api.Errno) {
	k := known{rank: h.Rank, ways: h.Ways}
	switch {
	case len(h.Rank) > api.MaxVertex, len(h.Ways) > api.MaxArcs:
		return known{}, api.ErrLong
	case !k.placesStand(), !k.waysStand(), !k.waysHold():
		return known{}, api.ErrArg
	}
	return k, api.OK
}

// placesStand finds the place of each rank, unless some rank has none.
func (k *known) placesStand() bool {
	k.at = make([]int, len(k.rank))
	for r := range k.at {
		k.at[r] = api.None
	}
	for v, r := range k.rank {
		if !k.isPlace(r) || k.at[r] != api.None {
			return false
		}
		k.at[r] = v
	}
	return true
}

// waysStand finds the number of each way, unless one's ends or length may not
// be.
func (k *known) waysStand() bool {
	k.numbers = map[ends]int{}
	for i, s := range k.ways {
		e := ends{s.From, s.To}
		_, twice := k.numbers[e]
		switch {
		case !k.isPlace(e.from), !k.isPlace(e.to), e.from == e.to, twice:
			return false
		case s.W < 0, s.W > api.MaxWay:
			return false
		}
		k.numbers[e] = i
	}
	return true
}

// waysHold tells whether each way is an arc, or the whole of two halves. It asks
// when all ways are numbered, as halves may come behind the whole; no W is above
// MaxWay then, so that two of them are less than the greatest int.
func (k *known) waysHold() bool {
	hold := true
holding:
	for _, s := range k.ways {
		switch {
		case isArc(s), k.isWhole(s):
			continue holding
		default:
			hold = false
			break holding
		}
	}
	return hold
}

func isArc(s api.Short) bool {
	return s.Mid == api.None && s.Arc >= 0 && s.Arc < api.MaxArcs
}

func (k *known) isPlace(v int) bool { return v >= 0 && v < len(k.rank) }

// isBelow tells whether a place is lower than each of the others.
func (k *known) isBelow(v int, others ...int) bool {
	for _, u := range others {
		if k.rank[v] >= k.rank[u] {
			return false
		}
	}
	return true
}

// isWhole tells whether a way leads by a lower place, and is what its two halves
// make together.
func (k *known) isWhole(s api.Short) bool {
	if !k.isPlace(s.Mid) || !k.isBelow(s.Mid, s.From, s.To) {
		return false
	}
	one, is := k.numbers[ends{s.From, s.Mid}]
	two, too := k.numbers[ends{s.Mid, s.To}]
	return is && too && s == join(k.ways[one], k.ways[two])
}

// join is the way by the place at which one half ends and the other begins.
func join(one api.Short, two api.Short) api.Short {
	way := api.Way{W: one.W + two.W, Mid: one.To, Arc: api.None}
	return api.Short{From: one.From, To: two.To, Way: way}
}
