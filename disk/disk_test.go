package disk_test

import (
	"bytes"
	"math"
	"math/rand"
	"slices"
	"strings"
	"testing"

	"postroad/api"
	"postroad/disk"
)

// model is the chapter word by word: bytes that are firm, and writes.
type model struct {
	room  int
	files map[string]modelFile
}

type modelFile struct {
	firm   string
	writes []string
}

func (f modelFile) all() string { return f.firm + strings.Join(f.writes, "") }

func newModel(room int) *model { return &model{room: room, files: map[string]modelFile{}} }

func (m *model) size() int {
	n := 0
	for _, f := range m.files {
		n += len(f.all())
	}
	return n
}

func (m *model) loose() int {
	n := 0
	for _, f := range m.files {
		n += len(f.writes)
	}
	return n
}

func (m *model) names() []string {
	names := []string{}
	for name := range m.files {
		names = append(names, name)
	}
	slices.SortFunc(names, func(a string, b string) int { return bytes.Compare([]byte(a), []byte(b)) })
	return names
}

func noName(s string) bool { return len(s) == 0 || len(s) > 60 }

func (m *model) do(x api.Op) api.Errno {
	if x.Kind < 1 || x.Kind > 4 || noName(x.Name) || x.Kind == 3 && noName(x.To) {
		return api.ErrArg
	}
	f, is := m.files[x.Name]
	if x.Kind == 1 {
		if m.size()+len(x.Data) > m.room {
			return api.ErrFull
		}
		m.files[x.Name] = modelFile{f.firm, append(slices.Clone(f.writes), string(x.Data))}
		return api.OK
	}
	if !is {
		return api.ErrNone
	}
	delete(m.files, x.Name)
	switch x.Kind {
	case 2:
		m.files[x.Name] = modelFile{firm: f.all()}
	case 3:
		m.files[x.To] = f
	}
	return api.OK
}

// crash spoils all bytes that do not stay, and then cuts behind the last one
// that did.
func (m *model) crash(marks ...int) {
	next := 0
	for _, name := range m.names() {
		f := m.files[name]
		loose, end := []byte(strings.Join(f.writes, "")), 0
		at := 0
		for _, w := range f.writes {
			mark := 0
			if next < len(marks) {
				mark = marks[next]
			}
			next++
			for i := range len(w) {
				if i < mark {
					end = at + 1
				} else {
					loose[at] = 0
				}
				at++
			}
		}
		m.files[name] = modelFile{firm: f.firm + string(loose[:end])}
	}
}

func (m *model) copied() *model {
	other := newModel(m.room)
	for name, f := range m.files {
		other.files[name] = f
	}
	return other
}

func write(name string, data ...byte) api.Op {
	return api.Op{Kind: api.Write, Name: name, Data: data}
}

func syncOf(name string) api.Op { return api.Op{Kind: api.Sync, Name: name} }

func rename(from string, to string) api.Op { return api.Op{Kind: api.Rename, Name: from, To: to} }

func remove(name string) api.Op { return api.Op{Kind: api.Remove, Name: name} }

// wantSame holds all that can be asked of d against m.
func wantSame(t *testing.T, d *disk.Disk, m *model) {
	t.Helper()
	if d.Size() != m.size() || d.Loose() != m.loose() || !slices.Equal(d.Names(), m.names()) {
		t.Fatalf("Size %d, Loose %d, Names %q, want %d, %d, %q", d.Size(), d.Loose(), d.Names(), m.size(), m.loose(), m.names())
	}
	for name, f := range m.files {
		wantFile(t, d, name, []byte(f.all())...)
	}
	for _, name := range []string{"", "nobody", strings.Repeat("n", 60), strings.Repeat("n", 61)} {
		if _, is := m.files[name]; !is {
			wantNoFile(t, d, name)
		}
	}
}

func wantFile(t *testing.T, d *disk.Disk, name string, want ...byte) {
	t.Helper()
	if b, e := d.Read(name); e != api.OK || !bytes.Equal(b, want) {
		t.Fatalf("Read(%q): %v, error %d, want %v", name, b, e, want)
	}
}

func wantNoFile(t *testing.T, d *disk.Disk, name string) {
	t.Helper()
	if b, e := d.Read(name); e != api.ErrNone || len(b) != 0 {
		t.Fatalf("Read(%q): %v, error %d, want ErrNone", name, b, e)
	}
}

// both is a disk and what the chapter says of it; each op goes to both.
type both struct {
	d *disk.Disk
	m *model
}

func newBoth(room int) both { return both{disk.New(room), newModel(room)} }

func (x both) do(t *testing.T, ops ...api.Op) {
	t.Helper()
	for i, op := range ops {
		if got, want := x.d.Do(op), x.m.do(op); got != want {
			t.Fatalf("op %d, %v: error %d, want %d", i, op, got, want)
		}
		wantSame(t, x.d, x.m)
	}
}

func (x both) crash(t *testing.T, marks ...int) {
	t.Helper()
	x.d.Crash(marks...)
	x.m.crash(marks...)
	wantSame(t, x.d, x.m)
}

func (x both) copied() both { return both{x.d.Copy(), x.m.copied()} }

func TestExample(t *testing.T) {
	d := disk.New(100)
	if n := disk.Run(d, write("a", 1, 2), syncOf("a"), write("a", 3, 4, 5)); n != 3 {
		t.Fatalf("Run: %d", n)
	}
	wantFile(t, d, "a", 1, 2, 3, 4, 5)
	d.Crash(2)
	wantFile(t, d, "a", 1, 2, 3, 4)
	if d.Size() != 4 || d.Loose() != 0 {
		t.Errorf("Size %d, Loose %d", d.Size(), d.Loose())
	}
}

func TestNewOfRoom(t *testing.T) {
	for _, room := range []int{math.MinInt, -1 << 40, -1, 1<<40 + 1, 1 << 41, math.MaxInt} {
		if disk.New(room) != nil {
			t.Errorf("New(%d) is not nil", room)
		}
	}
	for _, room := range []int{0, 1, 2, 1000, 1<<40 - 1, 1 << 40} {
		if disk.New(room) == nil {
			t.Fatalf("New(%d) is nil", room)
		}
		wantSame(t, disk.New(room), newModel(room))
	}
	d := disk.New(1 << 40)
	if e := d.Do(write("a", make([]byte, 1<<20)...)); e != api.OK || d.Size() != 1<<20 {
		t.Errorf("a write to the greatest disk: error %d, Size %d", e, d.Size())
	}
}

func TestKinds(t *testing.T) {
	for _, kind := range []int{math.MinInt, -4, -1, 0, 5, 6, 1 << 32, 1<<32 + 1, math.MaxInt} {
		x := newBoth(9)
		x.do(t, write("a", 1))
		for _, name := range []string{"", "a", "b", strings.Repeat("x", 61)} {
			if e := x.d.Do(api.Op{Kind: kind, Name: name, To: "c", Data: []byte{7}}); e != api.ErrArg {
				t.Errorf("Kind %d, %q: error %d", kind, name, e)
			}
			wantSame(t, x.d, x.m)
		}
	}
}

func TestNames(t *testing.T) {
	longest, longer := strings.Repeat("x", 60), strings.Repeat("x", 61)
	for _, bad := range []string{"", longer, strings.Repeat("y", 1<<16), strings.Repeat("é", 31)} {
		x := newBoth(9)
		x.do(t, write("a", 1))
		for _, op := range []api.Op{write(bad, 1), syncOf(bad), remove(bad), rename(bad, "a"), rename("a", bad), rename(bad, bad), rename("none", bad)} {
			if e := x.d.Do(op); e != api.ErrArg {
				t.Errorf("%v: error %d", op, e)
			}
			wantSame(t, x.d, x.m)
		}
	}
	for _, good := range []string{"x", longest, "\x00", "\xff\xfe", "..", "a/b", " ", "\n", strings.Repeat("é", 30), strings.Repeat("\x80", 60)} {
		x := newBoth(9)
		x.do(t, write(good, 1), syncOf(good), write(good, 2), rename(good, "other"), rename("other", good), rename(good, good))
		wantFile(t, x.d, good, 1, 2)
		x.crash(t)
		x.do(t, remove(good))
	}
}

// To is told of Rename alone, and Data of Write alone.
func TestWhatAKindDoesNotTell(t *testing.T) {
	x := newBoth(3)
	much, longer := make([]byte, 10), strings.Repeat("x", 61)
	for _, to := range []string{"", "b", longer} {
		x.do(t,
			api.Op{Kind: api.Write, Name: "a", To: to, Data: []byte{1}},
			api.Op{Kind: api.Sync, Name: "a", To: to, Data: much})
		wantFile(t, x.d, "a", 1)
		x.do(t,
			api.Op{Kind: api.Rename, Name: "a", To: "c", Data: much},
			api.Op{Kind: api.Remove, Name: "c", To: to, Data: much})
		wantNoFile(t, x.d, "c")
	}
}

func TestNamesRiseByteByByte(t *testing.T) {
	names := []string{"b", "a", "ab", "B", "\xff", "é", "a\x00", "\x00", "aa", "10", "9", strings.Repeat("a", 60)}
	x := newBoth(0)
	for _, name := range names {
		x.do(t, write(name))
	}
	want := []string{"\x00", "10", "9", "B", "a", "a\x00", "aa", strings.Repeat("a", 60), "ab", "b", "é", "\xff"}
	if got := x.d.Names(); !slices.Equal(got, want) {
		t.Errorf("%q", got)
	}
}

func TestRoom(t *testing.T) {
	x := newBoth(5)
	x.do(t, write("a", 1, 2, 3), syncOf("a"), write("b", 4), write("a", 5, 6))
	if e := x.d.Do(write("new", 7, 8)); e != api.ErrFull {
		t.Errorf("error %d", e)
	}
	wantNoFile(t, x.d, "new")
	x.do(t, write("a", 5), write("a", 6), write("b", 7), write("b"), write("c"))
	if x.d.Size() != 5 || x.d.Loose() != 4 {
		t.Errorf("Size %d, Loose %d", x.d.Size(), x.d.Loose())
	}
	none := newBoth(0)
	none.do(t, write("a", 1), write("a"), write("a"), syncOf("a"))
	wantFile(t, none.d, "a")
}

// What Remove, Rename and Crash take away may be written anew.
func TestRoomComesBack(t *testing.T) {
	x := newBoth(4)
	x.do(t, write("a", 1, 2), syncOf("a"), write("b", 3, 4), write("c", 5))
	full := x.copied()
	x.do(t, remove("a"), write("c", 5, 6, 7), write("c", 5, 6))
	x = full.copied()
	x.do(t, rename("b", "a"), write("c", 5, 6, 7), write("c", 5, 6))
	x = full.copied()
	x.crash(t, 1)
	x.do(t, write("c", 5, 6), write("c", 5))
	x = full.copied()
	x.do(t, rename("a", "a"), write("c", 5))
	if x.d.Size() != 4 {
		t.Errorf("Size %d", x.d.Size())
	}
}

func TestErrorsInOrder(t *testing.T) {
	d := disk.New(0)
	for _, c := range []struct {
		op   api.Op
		want api.Errno
	}{
		{write("", 1), api.ErrArg},
		{write(strings.Repeat("x", 61), 1), api.ErrArg},
		{write("a", 1), api.ErrFull},
		{syncOf(""), api.ErrArg},
		{syncOf("a"), api.ErrNone},
		{remove(""), api.ErrArg},
		{remove("a"), api.ErrNone},
		{rename("a", ""), api.ErrArg},
		{rename("", "a"), api.ErrArg},
		{rename("a", "b"), api.ErrNone},
		{rename("a", "a"), api.ErrNone},
		{api.Op{}, api.ErrArg},
	} {
		if e := d.Do(c.op); e != c.want {
			t.Errorf("%v: error %d, want %d", c.op, e, c.want)
		}
		wantSame(t, d, newModel(0))
	}
}

func TestRename(t *testing.T) {
	x := newBoth(20)
	x.do(t, write("a", 1), syncOf("a"), write("a", 2, 3), write("b", 4), syncOf("b"), write("b", 5))
	y := x.copied()
	x.do(t, rename("a", "b"), rename("a", "b"), syncOf("a"))
	wantFile(t, x.d, "b", 1, 2, 3)
	wantNoFile(t, x.d, "a")
	if x.d.Loose() != 1 { // its writes came with it, and those of the other are gone
		t.Errorf("Loose %d", x.d.Loose())
	}
	x.crash(t)
	wantFile(t, x.d, "b", 1)
	y.do(t, rename("a", "a"), rename("b", "b"), rename("a", "c"), rename("b", "a"))
	y.crash(t, 1, 2) // a was b, c was a
	wantFile(t, y.d, "a", 4, 5)
	wantFile(t, y.d, "c", 1, 2, 3)
}

func TestRemove(t *testing.T) {
	x := newBoth(20)
	x.do(t, write("a", 1), syncOf("a"), write("a", 2), write("b", 3), remove("a"), remove("a"))
	x.crash(t, 1, 1)
	wantNoFile(t, x.d, "a")
	wantFile(t, x.d, "b", 3)
	x.do(t, write("a", 9), remove("b"))
	wantFile(t, x.d, "a", 9)
	x.crash(t)
	wantFile(t, x.d, "a")
}

func TestRun(t *testing.T) {
	d := disk.New(3)
	if n := disk.Run(d); n != 0 {
		t.Errorf("of none: %d", n)
	}
	l := []api.Op{write("a", 1), syncOf("a"), write("b", 2, 3, 4), write("c", 5)}
	if n := disk.Run(d, l...); n != 2 {
		t.Errorf("up to the first error: %d", n)
	}
	if !slices.Equal(d.Names(), []string{"a"}) { // what is behind the error is not done
		t.Errorf("%q", d.Names())
	}
	if n := disk.Run(d, write("c", 5), remove("a"), rename("c", "a")); n != 3 {
		t.Errorf("all: %d", n)
	}
	wantFile(t, d, "a", 5)
	if n := disk.Run(d, syncOf("q"), remove("a")); n != 0 {
		t.Errorf("an error at once: %d", n)
	}
	wantFile(t, d, "a", 5)
}

func TestCrashByMarks(t *testing.T) {
	x := newBoth(100)
	x.do(t,
		write("b", 1, 2, 3), write("a", 4, 5), syncOf("b"), write("b", 6, 7, 8),
		write("b"), write("b", 9, 9), write("b", 1, 1), write("c"), write("d", 3), syncOf("d"))
	for _, c := range []struct {
		marks   []int
		a, b, c []byte
	}{
		{nil, nil, []byte{1, 2, 3}, nil},
		{[]int{2}, []byte{4, 5}, []byte{1, 2, 3}, nil},
		{[]int{1, 2, 0, 0, 1}, []byte{4}, []byte{1, 2, 3, 6, 7, 0, 0, 0, 1}, nil},
		{[]int{0, 2}, nil, []byte{1, 2, 3, 6, 7}, nil},
		{[]int{0, 2, 5}, nil, []byte{1, 2, 3, 6, 7}, nil}, // of a write without bytes none stays
		{[]int{0, 0, 5, 1}, nil, []byte{1, 2, 3, 0, 0, 0, 9}, nil},
		{[]int{0, 3, 0, 2, 2, 1, 1, 1}, nil, []byte{1, 2, 3, 6, 7, 8, 9, 9, 1, 1}, nil},
		{[]int{math.MinInt, -1, -1, math.MaxInt, -7}, nil, []byte{1, 2, 3, 0, 0, 0, 9, 9}, nil},
		{[]int{math.MaxInt, 4, 1, 3, 1 << 32}, []byte{4, 5}, []byte{1, 2, 3, 6, 7, 8, 9, 9, 1, 1}, nil},
	} {
		y := x.copied()
		y.crash(t, c.marks...)
		wantFile(t, y.d, "a", c.a...)
		wantFile(t, y.d, "b", c.b...)
		wantFile(t, y.d, "c", c.c...)
		wantFile(t, y.d, "d", 3)
		if y.d.Loose() != 0 {
			t.Errorf("%d: Loose %d", c.marks, y.d.Loose())
		}
		y.crash(t, 1, 1, 1, 1) // there is nothing more to lose
		y.do(t, write("b", 8), syncOf("b"))
	}
}

// A byte that stays is told by its mark, not by what it is.
func TestNoughtsStay(t *testing.T) {
	x := newBoth(100)
	x.do(t, write("a", 0, 0, 0), write("a", 0, 0))
	y := x.copied()
	y.crash(t, 2)
	wantFile(t, y.d, "a", 0, 0)
	x.crash(t, 0, 1)
	wantFile(t, x.d, "a", 0, 0, 0, 0)
}

// What a crash spoilt may not come back by what is written behind it.
func TestBehindACrash(t *testing.T) {
	x := newBoth(100)
	x.do(t, write("a", 1, 2), syncOf("a"), write("a", 3, 4, 5, 6), write("a", 7, 8))
	x.crash(t, 1)
	x.do(t, write("a", 9), write("a", 10, 11))
	wantFile(t, x.d, "a", 1, 2, 3, 9, 10, 11)
	x.crash(t, 0, 1)
	wantFile(t, x.d, "a", 1, 2, 3, 0, 10)
	x.do(t, syncOf("a"))
	x.crash(t)
	wantFile(t, x.d, "a", 1, 2, 3, 0, 10)
}

// What lasts: whatever is written behind a sync, and whatever the marks are,
// the bytes that were firm are there, and nothing but bytes of the writes, or
// noughts, is behind them.
func TestWhatWasSyncedStays(t *testing.T) {
	firm, loose := []byte{1, 2, 3}, []byte{4, 5, 6, 7, 8, 9}
	d := disk.New(100)
	disk.Run(d, write("a", firm[:2]...), write("a", firm[2:]...), syncOf("a"), write("a", loose[:2]...), write("a", loose[2:3]...), write("a", loose[3:]...), write("z", 1))
	for marks := range 6 * 6 * 6 * 6 {
		c := d.Copy()
		c.Crash(marks%6-1, marks/6%6-1, marks/36%6-1, marks/216-1)
		b, e := c.Read("a")
		if e != api.OK || !bytes.HasPrefix(b, firm) || len(b) > len(firm)+len(loose) {
			t.Fatalf("marks %d: %v, error %d", marks, b, e)
		}
		for i, x := range b[len(firm):] {
			if x != 0 && x != loose[i] {
				t.Fatalf("marks %d: %v", marks, b)
			}
		}
		if len(b) > len(firm) && b[len(b)-1] == 0 { // none was written: the last one stayed
			t.Fatalf("marks %d: %v ends in a byte that did not stay", marks, b)
		}
		disk.Run(c, syncOf("a"), write("a", 7))
		c.Crash()
		wantFile(t, c, "a", b...)
	}
}

func TestCopyIsApart(t *testing.T) {
	x := newBoth(20)
	x.do(t, write("a", 1, 2), syncOf("a"), write("a", 3), write("b", 4))
	y, z := x.copied(), x.copied()
	wantSame(t, y.d, y.m)
	x.do(t, write("a", 5), remove("b"), syncOf("a"), write("c", 6))
	wantSame(t, y.d, y.m)
	y.do(t, rename("b", "a"), write("a", 7), write("d"))
	wantSame(t, x.d, x.m)
	wantSame(t, z.d, z.m)
	z.crash(t, 1)
	wantSame(t, x.d, x.m)
	wantSame(t, y.d, y.m)
	z.do(t, write("a", make([]byte, 17)...), write("a", make([]byte, 16)...)) // it has the same room
	wantSame(t, disk.New(3).Copy(), newModel(3))
}

// Appending to one of two copies must not write into room that is the other's.
func TestCopiesGrowApart(t *testing.T) {
	x := newBoth(1000)
	for i := range 50 {
		x.do(t, write("a", byte(i), byte(i)))
		if i%3 == 0 {
			x.do(t, syncOf("a"))
		}
		y := x.copied()
		y.do(t, write("a", 200), syncOf("a"), write("a", 201))
		z := x.copied()
		z.do(t, write("a", 202), syncOf("a"), write("a", 203))
		z.crash(t)
		wantSame(t, y.d, y.m)
		wantSame(t, x.d, x.m)
	}
}

func TestNothingIsSharedWithWhatIsHandedIn(t *testing.T) {
	x := newBoth(100)
	room := []byte{1, 2, 3, 4, 5, 6}
	data := room[:3]
	x.do(t, write("a", data...), write("b", data...), syncOf("b"))
	room[0], room[3] = 9, 9
	wantSame(t, x.d, x.m)
	marks := []int{2, -5, math.MaxInt, 7}
	held := slices.Clone(marks)
	x.crash(t, marks[:2]...)
	x.d.Copy().Crash(marks...)
	if !slices.Equal(marks, held) {
		t.Errorf("marks are %d", marks)
	}
	x.do(t, write("b", room[:2]...), write("b", room[2:4]...))
	x.crash(t, 0, 1)
	if !bytes.Equal(room, []byte{9, 2, 3, 9, 5, 6}) { // the crash spoils the disk's bytes alone
		t.Errorf("data are %d", room)
	}
}

func TestNothingIsSharedWithWhatComesOut(t *testing.T) {
	x := newBoth(100)
	x.do(t, write("a", 1, 2, 3), syncOf("a"), write("a", 4), write("b", 5, 6), write("c", 7), syncOf("c"))
	for _, name := range x.d.Names() {
		b, _ := x.d.Read(name)
		c, _ := x.d.Read(name)
		want := slices.Clone(c)
		clear(b[:cap(b)])
		_ = append(b, 99)
		if !bytes.Equal(c, want) {
			t.Errorf("two Reads share %q", name)
		}
	}
	names, others := x.d.Names(), x.d.Names()
	clear(names[:cap(names)])
	if !slices.Equal(others, []string{"a", "b", "c"}) {
		t.Errorf("two Names share: %q", others)
	}
	wantSame(t, x.d, x.m)
	x.do(t, write("a", 8), syncOf("a"), write("a", 9))
}

func TestNilDisk(t *testing.T) {
	var none *disk.Disk
	none.Crash()
	none.Crash(1, -1, math.MaxInt)
	for _, op := range []api.Op{{}, write("a", 1), write("", 1), syncOf("a"), rename("a", "b"), remove("a"), {Kind: -1}} {
		if e := none.Do(op); e != api.ErrNil {
			t.Errorf("%v: error %d", op, e)
		}
		if n := disk.Run(none, op, op); n != 0 {
			t.Errorf("Run: %d", n)
		}
	}
	for _, name := range []string{"", "a", strings.Repeat("x", 61)} {
		if b, e := none.Read(name); e != api.ErrNil || len(b) != 0 {
			t.Errorf("Read: %v, error %d", b, e)
		}
	}
	if none.Size() != 0 || none.Loose() != 0 || len(none.Names()) != 0 || none.Copy() != nil || disk.Run(none) != 0 {
		t.Error("a nil disk is something")
	}
}

// A disk that New did not make has no room, and panics no more than others.
func TestZeroDisk(t *testing.T) {
	x := both{&disk.Disk{}, newModel(0)}
	wantSame(t, x.d, x.m)
	x.crash(t, 1)
	wantSame(t, x.d.Copy(), x.m)
	x.do(t, syncOf("a"), remove("a"), rename("a", "b"), write("a", 1), write("a"), rename("a", "b"), syncOf("b"))
	x.crash(t)
}

func TestTwoDisksAreApart(t *testing.T) {
	x, y := newBoth(5), newBoth(5)
	x.do(t, write("a", 1, 2, 3, 4, 5))
	wantSame(t, y.d, y.m)
	y.do(t, write("a", 6), write("b", 7))
	x.do(t, remove("a"))
	x.crash(t)
	wantSame(t, y.d, y.m)
}

// doOne does the same to a disk and to what the chapter says of it; three
// bytes tell what.
func doOne(t *testing.T, x both, what byte, which byte, how byte) both {
	t.Helper()
	names := []string{"a", "b", "ab", "\xff", "", strings.Repeat("l", 60), strings.Repeat("l", 61)}
	name, to := names[int(which)%len(names)], names[int(how)%len(names)]
	data := bytes.Repeat([]byte{how}, int(how)%7)
	switch what % 12 {
	default:
		x.do(t, write(name, data...))
	case 5, 6:
		x.do(t, syncOf(name))
	case 7:
		x.do(t, rename(name, to))
	case 8:
		x.do(t, remove(name))
	case 9:
		x.do(t, api.Op{Kind: int(int8(how)), Name: name, To: to, Data: data})
	case 10:
		x.crash(t, int(int8(which)), int(how)%8-1, int(which)%5, int(how)/64)
	case 11:
		y := x.copied()
		x.do(t, write("b", data...))
		x.crash(t, int(which)%8, int(how)%8)
		wantSame(t, y.d, y.m)
		return y
	}
	return x
}

func TestAnyCallsInAnyOrder(t *testing.T) {
	r := rand.New(rand.NewSource(4))
	for round := range 400 {
		x := newBoth(r.Intn(80))
		for range 10 + round/4 {
			x = doOne(t, x, byte(r.Intn(256)), byte(r.Intn(256)), byte(r.Intn(256)))
		}
	}
}

func FuzzAnyCalls(f *testing.F) {
	f.Add(byte(20), []byte{0, 0, 3, 5, 0, 0, 0, 0, 6, 10, 1, 2})
	f.Add(byte(0), []byte{0, 0, 0, 7, 0, 1, 8, 1, 0, 11, 0, 0})
	f.Add(byte(9), []byte{1, 0, 9, 1, 1, 9, 7, 0, 1, 10, 200, 200, 9, 0, 255})
	f.Fuzz(func(t *testing.T, room byte, ops []byte) {
		x := newBoth(int(room))
		for ; len(ops) >= 3; ops = ops[3:] {
			x = doOne(t, x, ops[0], ops[1], ops[2])
		}
	})
}

// So many files and writes that a way of counting all of them at each call
// would not end soon.
func TestMany(t *testing.T) {
	const n = 1 << 16
	d := disk.New(4 * n)
	for i := range n {
		name := string([]byte{byte(i), byte(i >> 8)})
		if disk.Run(d, write(name, byte(i)), write("one", 1), write("two", 2), syncOf("two")) != 4 {
			t.Fatalf("write %d", i)
		}
	}
	if d.Size() != 3*n || d.Loose() != 2*n || len(d.Names()) != n+2 {
		t.Fatalf("Size %d, Loose %d, %d names", d.Size(), d.Loose(), len(d.Names()))
	}
	marks := slices.Repeat([]int{1}, 2*n)
	d.Crash(marks...)
	if d.Size() != 3*n || d.Loose() != 0 {
		t.Fatalf("Size %d, Loose %d behind the crash", d.Size(), d.Loose())
	}
	wantFile(t, d, "one", bytes.Repeat([]byte{1}, n)...)
	wantFile(t, d, "two", bytes.Repeat([]byte{2}, n)...)
}
