package heap_test

import (
	"math"
	"math/rand"
	"slices"
	"testing"

	"postroad/api"
	"postroad/heap"
)

// model is the chapter word by word: which are in, with which keys.
type model struct {
	n    int
	keys map[int]int
}

func newModel(n int) *model { return &model{n: n, keys: map[int]int{}} }

func (m *model) set(id int, key int) bool {
	if id < 0 || id >= m.n {
		return false
	}
	m.keys[id] = key
	return true
}

func (m *model) first() (int, int, bool) {
	least, key, is := 0, 0, false
	for id, k := range m.keys {
		if !is || k < key || k == key && id < least {
			least, key, is = id, k, true
		}
	}
	return least, key, is
}

func (m *model) pop() (int, int, bool) {
	id, key, is := m.first()
	delete(m.keys, id)
	return id, key, is
}

func (m *model) drop(id int) bool {
	_, is := m.keys[id]
	delete(m.keys, id)
	return is
}

func (m *model) key(id int) (int, bool) {
	key, is := m.keys[id]
	return key, is
}

type answer struct {
	id, key int
	is      bool
}

func answerOf(id int, key int, is bool) answer { return answer{id, key, is} }

func wantAnswer(t *testing.T, what string, got answer, want answer) {
	t.Helper()
	if got != want {
		t.Fatalf("%s: %v, want %v", what, got, want)
	}
}

func wrongIds(n int) []int {
	return []int{math.MinInt, math.MinInt32, -n - 1, -2, -1, n, n + 1, 2*n + 1, api.MaxVertex, math.MaxInt32, 1 << 32, math.MaxInt}
}

// wantSame holds all that can be asked of h, without changing it, against m.
func wantSame(t *testing.T, h *heap.Heap, m *model) {
	t.Helper()
	if h.Len() != len(m.keys) {
		t.Fatalf("Len %d, want %d", h.Len(), len(m.keys))
	}
	wantAnswer(t, "First", answerOf(h.First()), answerOf(m.first()))
	for id := -1; id <= m.n; id++ {
		key, is := h.Key(id)
		if k, in := m.key(id); key != k || is != in {
			t.Fatalf("Key(%d): %d %v, want %d %v", id, key, is, k, in)
		}
	}
}

// wantSameOrder pops all of h and of m.
func wantSameOrder(t *testing.T, h *heap.Heap, m *model) {
	t.Helper()
	for is := true; is; {
		got, want := answerOf(h.Pop()), answerOf(m.pop())
		wantAnswer(t, "Pop", got, want)
		if h.Len() != len(m.keys) {
			t.Fatalf("Len %d behind Pop, want %d", h.Len(), len(m.keys))
		}
		is = got.is
	}
}

// wantNothingIn holds h against what the chapter says of a heap in which none
// is, whatever is asked.
func wantNothingIn(t *testing.T, h *heap.Heap, n int) {
	t.Helper()
	if h.Len() != 0 {
		t.Fatalf("Len %d", h.Len())
	}
	wantAnswer(t, "First", answerOf(h.First()), answer{})
	wantAnswer(t, "Pop", answerOf(h.Pop()), answer{})
	for _, id := range append(wrongIds(n), 0, n/2, n-1) {
		if h.Drop(id) {
			t.Fatalf("Drop(%d)", id)
		}
		if key, is := h.Key(id); key != 0 || is {
			t.Fatalf("Key(%d): %d %v", id, key, is)
		}
	}
}

func filled(keys ...int) (*heap.Heap, *model) {
	h, m := heap.New(len(keys)), newModel(len(keys))
	for id, key := range keys {
		h.Set(id, key)
		m.set(id, key)
	}
	return h, m
}

func TestNewOfHowMany(t *testing.T) {
	for _, n := range []int{math.MinInt, math.MinInt32, -2, -1, api.MaxVertex + 1, math.MaxInt32, 1 << 32, math.MaxInt} {
		if heap.New(n) != nil {
			t.Errorf("New(%d) is not nil", n)
		}
	}
	for _, n := range []int{0, 1, 2, 3, 100, api.MaxVertex - 1, api.MaxVertex} {
		h := heap.New(n)
		if h == nil {
			t.Fatalf("New(%d) is nil", n)
		}
		wantNothingIn(t, h, n)
		for _, id := range []int{-1, n, n + 1} {
			if h.Set(id, 1) {
				t.Errorf("New(%d): Set(%d) is true", n, id)
			}
		}
		wantNothingIn(t, h, n)
		if n == 0 {
			continue
		}
		if !h.Set(0, 7) || !h.Set(n-1, 5) {
			t.Errorf("New(%d): Set of the least or the greatest is false", n)
		}
		wantAnswer(t, "First", answerOf(h.First()), answer{n - 1, 5, true})
	}
}

func TestExample(t *testing.T) {
	h := heap.New(5)
	h.Set(4, 9)
	h.Set(2, 7)
	h.Set(3, 7)
	wantAnswer(t, "Pop", answerOf(h.Pop()), answer{2, 7, true})
	wantAnswer(t, "Pop", answerOf(h.Pop()), answer{3, 7, true})
	wantAnswer(t, "Pop", answerOf(h.Pop()), answer{4, 9, true})
	wantAnswer(t, "Pop", answerOf(h.Pop()), answer{})
}

func TestSetOfWhatMayNotBe(t *testing.T) {
	h, m := filled(4, 2, 8)
	for _, id := range wrongIds(3) {
		if h.Set(id, 1) {
			t.Errorf("Set(%d) is true", id)
		}
		if h.Drop(id) {
			t.Errorf("Drop(%d) is true", id)
		}
		wantSame(t, h, m)
	}
	wantSameOrder(t, h, m)
}

func TestSetAgain(t *testing.T) {
	for id := range 7 {
		for key := -1; key <= 8; key++ {
			h, m := filled(0, 1, 2, 3, 4, 5, 6)
			if !h.Set(id, key) {
				t.Fatalf("Set(%d, %d) is false", id, key)
			}
			m.set(id, key)
			wantSame(t, h, m)
			wantSameOrder(t, h, m)
		}
	}
}

func TestEqualKeysComeByNumber(t *testing.T) {
	const n = 64
	for step := 1; step < n; step += 2 { // an odd step meets each of 64
		h := heap.New(n)
		for i := range n {
			h.Set(i*step%n, 7)
		}
		for id := range n {
			wantAnswer(t, "First", answerOf(h.First()), answer{id, 7, true})
			wantAnswer(t, "Pop", answerOf(h.Pop()), answer{id, 7, true})
		}
		wantNothingIn(t, h, n)
	}
}

func TestGreatestAndLeastKeys(t *testing.T) {
	h, m := filled(0, math.MaxInt, math.MinInt, -1, 1, math.MinInt, math.MaxInt, math.MinInt+1, math.MaxInt-1)
	wantSame(t, h, m)
	wantSameOrder(t, h, m)
}

// Key and First tell a key of 0 and the number 0 from nothing by the bool.
func TestNoughtsAreIn(t *testing.T) {
	h := heap.New(1)
	h.Set(0, 0)
	wantAnswer(t, "First", answerOf(h.First()), answer{0, 0, true})
	if key, is := h.Key(0); key != 0 || !is {
		t.Errorf("Key: %d %v", key, is)
	}
	if h.Len() != 1 {
		t.Errorf("Len %d", h.Len())
	}
	wantAnswer(t, "Pop", answerOf(h.Pop()), answer{0, 0, true})
	wantNothingIn(t, h, 1)
}

func TestFirstAndKeyAndLenChangeNothing(t *testing.T) {
	h, m := filled(5, 3, 9, 3)
	for range 5 {
		wantSame(t, h, m)
	}
	wantSameOrder(t, h, m)
}

// permute hands each order of l to yield.
func permute(l []int, from int, yield func([]int)) {
	if from == len(l) {
		yield(l)
		return
	}
	for i := from; i < len(l); i++ {
		l[from], l[i] = l[i], l[from]
		permute(l, from+1, yield)
		l[from], l[i] = l[i], l[from]
	}
}

func TestDropFromEveryOrder(t *testing.T) {
	permute([]int{0, 1, 2, 3, 4, 5, 6}, 0, func(keys []int) {
		for id := range keys {
			h, m := filled(keys...)
			if !h.Drop(id) {
				t.Fatalf("%d: Drop(%d) is false", keys, id)
			}
			m.drop(id)
			if h.Drop(id) {
				t.Fatalf("%d: Drop(%d) is true again", keys, id)
			}
			wantSame(t, h, m)
			wantSameOrder(t, h, m)
		}
	})
}

// What fills the gap of one that was dropped comes from another branch, and
// has to go up.
func TestDropMovesUp(t *testing.T) {
	h, m := filled(0, 50, 1, 60, 70, 2, 3, 61, 62, 71, 72, 4, 5)
	for _, id := range []int{3, 4, 1} {
		h.Drop(id)
		m.drop(id)
		wantSame(t, h, m)
	}
	wantSameOrder(t, h, m)
}

func TestWhatIsPoppedRises(t *testing.T) {
	r := rand.New(rand.NewSource(3))
	for range 200 {
		n := r.Intn(300)
		h := heap.New(n)
		for range 2 * n {
			h.Set(r.Intn(n), r.Intn(20)-10)
		}
		before := answer{-1, math.MinInt, true}
		for h.Len() > 0 {
			now := answerOf(h.Pop())
			if !now.is || now.key < before.key || now.key == before.key && now.id <= before.id {
				t.Fatalf("%v behind %v", now, before)
			}
			before = now
			if r.Intn(4) == 0 { // as long as nothing is set: others may go
				h.Drop(r.Intn(n))
			}
		}
	}
}

func TestClear(t *testing.T) {
	h := heap.New(0)
	h.Clear()
	wantNothingIn(t, h, 0)
	h, m := filled(5, 3, 9, 3, 1, 7)
	h.Pop()
	h.Drop(2)
	h.Clear()
	wantNothingIn(t, h, 6)
	h.Clear()
	wantNothingIn(t, h, 6)
	clear(m.keys)
	for id, key := range []int{2, 2, 8, 0, 6, 4} {
		if !h.Set(id, key) {
			t.Fatalf("Set(%d) behind Clear is false", id)
		}
		m.set(id, key)
		wantSame(t, h, m)
	}
	wantSameOrder(t, h, m)
}

// One that went out is in no more, and may come in again.
func TestOutAndInAgain(t *testing.T) {
	h := heap.New(3)
	out := []func(){func() { h.Pop() }, func() { h.Drop(1) }, func() { h.Clear() }}
	for key, take := range out {
		if !h.Set(1, key) {
			t.Fatal("Set is false")
		}
		wantAnswer(t, "First", answerOf(h.First()), answer{1, key, true})
		take()
		wantNothingIn(t, h, 3)
	}
}

func TestNilAndZeroHeap(t *testing.T) {
	var none *heap.Heap
	for _, h := range []*heap.Heap{none, {}, heap.New(0)} {
		for _, id := range append(wrongIds(0), 0, 1) {
			if h.Set(id, 1) {
				t.Errorf("Set(%d) is true", id)
			}
		}
		wantNothingIn(t, h, 0)
		h.Clear()
		wantNothingIn(t, h, 0)
	}
}

func TestTwoHeapsAreApart(t *testing.T) {
	a, ma := filled(3, 1, 2)
	b, mb := filled(9, 8, 7, 6)
	a.Set(0, -5)
	ma.set(0, -5)
	wantSame(t, b, mb)
	b.Drop(3)
	mb.drop(3)
	wantSame(t, a, ma)
	b.Clear()
	wantSame(t, a, ma)
	wantSameOrder(t, a, ma)
}

// doOne does the same to h and to m, and holds the answers against each other.
func doOne(t *testing.T, h *heap.Heap, m *model, op byte, id int, key int) {
	t.Helper()
	switch op % 8 {
	default:
		if got, want := h.Set(id, key), m.set(id, key); got != want {
			t.Fatalf("Set(%d, %d): %v, want %v", id, key, got, want)
		}
	case 4, 5:
		wantAnswer(t, "Pop", answerOf(h.Pop()), answerOf(m.pop()))
	case 6:
		if got, want := h.Drop(id), m.drop(id); got != want {
			t.Fatalf("Drop(%d): %v, want %v", id, got, want)
		}
	case 7:
		if key == 0 {
			h.Clear()
			clear(m.keys)
		}
	}
	wantSame(t, h, m)
}

func TestAnyCallsInAnyOrder(t *testing.T) {
	r := rand.New(rand.NewSource(1))
	for round := range 300 {
		n := r.Intn(40)
		h, m := heap.New(n), newModel(n)
		spread := 1 + r.Intn(50)
		for range 10 + round {
			doOne(t, h, m, byte(r.Intn(256)), r.Intn(n+2)-1, r.Intn(spread)-spread/2)
		}
		wantSameOrder(t, h, m)
	}
}

func FuzzAnyCalls(f *testing.F) {
	f.Add(byte(5), []byte{0, 4, 9, 0, 2, 7, 0, 3, 7, 4, 0, 0})
	f.Add(byte(0), []byte{0, 0, 0, 4, 0, 0, 6, 0, 0, 7, 0, 0})
	f.Add(byte(3), []byte{0, 0, 1, 0, 1, 1, 0, 2, 1, 6, 0, 0, 0, 0, 255, 5, 0, 0, 7, 0, 0, 0, 1, 1})
	f.Fuzz(func(t *testing.T, n byte, ops []byte) {
		h, m := heap.New(int(n)), newModel(int(n))
		for ; len(ops) >= 3; ops = ops[3:] {
			doOne(t, h, m, ops[0], int(ops[1])-1, int(int8(ops[2])))
		}
		wantSameOrder(t, h, m)
	})
}

// So many that a way of asking each of them at each call would not end soon.
func TestMany(t *testing.T) {
	const n = 1 << 18
	h := heap.New(n)
	want := make([]answer, n)
	for id := range n {
		h.Set(id, n-id)
	}
	for id := range n {
		key := id * 7919 % 1000
		h.Set(id, key)
		want[id] = answer{id, key, true}
	}
	slices.SortStableFunc(want, func(a answer, b answer) int { return a.key - b.key })
	for i := range n {
		wantAnswer(t, "Pop", answerOf(h.Pop()), want[i])
	}
	wantNothingIn(t, h, n)
}
