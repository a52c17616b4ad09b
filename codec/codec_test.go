package codec_test

import (
	"bytes"
	"encoding/binary"
	"math"
	"math/rand"
	"slices"
	"strings"
	"testing"

	"postroad/api"
	"postroad/codec"
)

func someNumbers() []uint64 {
	l := []uint64{0, 1, 255, 256, 258, 0x0102030405060708, math.MaxInt64, 1 << 63, math.MaxUint64}
	for i := range 64 {
		l = append(l, 1<<i, 1<<i-1)
	}
	return l
}

func someRows() [][]int {
	rows := [][]int{nil, {}, {0}, {-1}, {258, -1}, {math.MinInt, math.MaxInt}, {255, 256, -256, -255}}
	r := rand.New(rand.NewSource(1))
	for long := range 40 {
		row := make([]int, long)
		for i := range row {
			row[i] = int(r.Uint64() >> r.Intn(64))
		}
		rows = append(rows, row)
	}
	return append(rows, make([]int, 70000))
}

func someTexts() []string {
	texts := []string{"", "a", "ab", "\x00", "\x00\x00", "\xff\xfe\x80", "Straße", strings.Repeat("x", 255), strings.Repeat("y", 256)}
	return append(texts, strings.Repeat("\x00z", 40000))
}

func join(lists ...[]byte) []byte { return slices.Concat(lists...) }

// wantFailed holds a reader against all that the chapter says of one that has
// failed: nothing is taken any more and the first error stays.
func wantFailed(t *testing.T, what string, r *codec.Reader, want api.Errno) {
	t.Helper()
	check := func(after string) {
		t.Helper()
		if r.Failed() != want || r.End() != want || r.Left() != 0 {
			t.Errorf("%s, %s: Failed %d, End %d, Left %d, want %d and nothing left", what, after, r.Failed(), r.End(), r.Left(), want)
		}
	}
	check("at once")
	for _, n := range []int{math.MinInt, -1, 0, 1, 4, 8, 9, math.MaxInt} {
		if x := r.Num(n); x != 0 {
			t.Errorf("%s: Num(%d) = %d", what, n, x)
		}
		check("behind Num")
		if l := r.Ints(n); len(l) != 0 {
			t.Errorf("%s: Ints(%d) = %d", what, n, l)
		}
		check("behind Ints")
		if s := r.Text(n); s != "" {
			t.Errorf("%s: Text(%d) = %q", what, n, s)
		}
		check("behind Text")
	}
}

func wantAllTaken(t *testing.T, what string, r *codec.Reader) {
	t.Helper()
	if r.Failed() != api.OK || r.End() != api.OK || r.Left() != 0 {
		t.Errorf("%s: Failed %d, End %d, Left %d", what, r.Failed(), r.End(), r.Left())
	}
}

func TestPutEveryWidth(t *testing.T) {
	for _, n := range someNumbers() {
		all := binary.LittleEndian.AppendUint64(nil, n)
		for wide := range 9 {
			if got := codec.Put(n, wide); !bytes.Equal(got, all[:wide]) {
				t.Errorf("Put(%x, %d) = %x", n, wide, got)
			}
		}
	}
}

func TestPutClips(t *testing.T) {
	for _, wide := range []int{-1, -8, math.MinInt32, math.MinInt} {
		if got := codec.Put(math.MaxUint64, wide); len(got) != 0 {
			t.Errorf("Put(.., %d) = %x", wide, got)
		}
	}
	for _, wide := range []int{8, 9, 16, 1 << 40, math.MaxInt} {
		if got := codec.Put(0x0102030405060708, wide); string(got) != "\x08\x07\x06\x05\x04\x03\x02\x01" {
			t.Errorf("Put(.., %d) = %x", wide, got)
		}
	}
}

func TestNumTakesWhatWasPut(t *testing.T) {
	for _, n := range someNumbers() {
		for wide := range 9 {
			low := n
			if wide < 8 {
				low = n % (1 << (8 * wide))
			}
			r := codec.New(join(codec.Put(n, wide), []byte{0xa5, 0x5a}))
			if got := r.Num(wide); got != low || r.Left() != 2 || r.Failed() != api.OK {
				t.Errorf("Num(%d) of Put(%x, %d) = %x, %d left", wide, n, wide, got, r.Left())
			}
			if got := r.Num(2); got != 0x5aa5 {
				t.Errorf("behind it: %x", got)
			}
			wantAllTaken(t, "Num", r)
		}
	}
}

func TestNumClips(t *testing.T) {
	r := codec.New([]byte("\x08\x07\x06\x05\x04\x03\x02\x01rest"))
	for _, wide := range []int{0, -1, -9, math.MinInt} {
		if got := r.Num(wide); got != 0 || r.Left() != 12 || r.Failed() != api.OK {
			t.Errorf("Num(%d) = %x, %d left", wide, got, r.Left())
		}
	}
	if got := r.Num(math.MaxInt); got != 0x0102030405060708 || r.Left() != 4 || r.Failed() != api.OK {
		t.Errorf("Num(greatest) = %x, %d left", got, r.Left())
	}
	wantShortNum(t, []byte("rest"), 99)
}

func wantShortNum(t *testing.T, b []byte, wide int) {
	t.Helper()
	r := codec.New(b)
	if got := r.Num(wide); got != 0 {
		t.Errorf("Num(%d) of %x = %x", wide, b, got)
	}
	wantFailed(t, "Num", r, api.ErrShort)
}

func TestNumTooShort(t *testing.T) {
	full := []byte{1, 2, 3, 4, 5, 6, 7, 8}
	for long := range 8 {
		for wide := long + 1; wide <= 9; wide++ {
			wantShortNum(t, full[:long], wide)
		}
	}
	wantShortNum(t, nil, 1)
}

func TestIntsKnown(t *testing.T) {
	want := "\x02\x00\x00\x00\x02\x01\x00\x00\x00\x00\x00\x00\xff\xff\xff\xff\xff\xff\xff\xff"
	if got := codec.Ints(258, -1); string(got) != want {
		t.Errorf("Ints(258, -1) = %x", got)
	}
	if a, b := codec.Ints(), codec.Ints([]int{}...); string(a) != "\x00\x00\x00\x00" || string(b) != "\x00\x00\x00\x00" {
		t.Errorf("Ints of none: %x, %x", a, b)
	}
	if got := codec.Ints(math.MinInt64); string(got) != "\x01\x00\x00\x00\x00\x00\x00\x00\x00\x00\x00\x80" {
		t.Errorf("Ints(least) = %x", got)
	}
}

func TestIntsIsPuts(t *testing.T) {
	for _, row := range someRows() {
		want := codec.Put(uint64(len(row)), 4)
		for _, n := range row {
			want = append(want, codec.Put(uint64(n), 8)...)
		}
		if got := codec.Ints(row...); !bytes.Equal(got, want) {
			t.Errorf("Ints of %d numbers is not the Puts of them", len(row))
		}
	}
}

func TestTextKnown(t *testing.T) {
	for text, want := range map[string]string{
		"":             "\x00\x00\x00\x00",
		"ab":           "\x02\x00\x00\x00ab",
		"ß":            "\x02\x00\x00\x00\xc3\x9f",
		"\xff\x00\x80": "\x03\x00\x00\x00\xff\x00\x80",
	} {
		if got := codec.Text(text); string(got) != want {
			t.Errorf("Text(%q) = %q", text, got)
		}
	}
	long := strings.Repeat("q", 0x010203)
	if got := codec.Text(long); string(got) != "\x03\x02\x01\x00"+long {
		t.Errorf("Text of %d bytes: %d bytes, begin %x", len(long), len(got), got[:4])
	}
}

func TestRowsThereAndBack(t *testing.T) {
	for _, row := range someRows() {
		for _, most := range []int{len(row), len(row) + 1, math.MaxInt} {
			r := codec.New(codec.Ints(row...))
			if got := r.Ints(most); !slices.Equal(got, row) {
				t.Errorf("Ints(%d) of a row of %d: %d numbers", most, len(row), len(got))
			}
			wantAllTaken(t, "Ints", r)
		}
	}
}

func TestTextsThereAndBack(t *testing.T) {
	for _, text := range someTexts() {
		for _, most := range []int{len(text), len(text) + 1, math.MaxInt} {
			r := codec.New(codec.Text(text))
			if got := r.Text(most); got != text {
				t.Errorf("Text(%d) of a text of %d: %d bytes", most, len(text), len(got))
			}
			wantAllTaken(t, "Text", r)
		}
	}
}

func TestOneBehindTheOther(t *testing.T) {
	var all []byte
	for i, row := range someRows() {
		all = join(all, codec.Ints(row...), codec.Put(uint64(i), i%9), codec.Text(someTexts()[i%9]))
	}
	r := codec.New(all)
	taken := 0
	for i, row := range someRows() {
		text := someTexts()[i%9]
		if got := r.Ints(len(row)); !slices.Equal(got, row) {
			t.Fatalf("row %d: %d", i, got)
		}
		if want := uint64(i); i%9 > 0 && r.Num(i%9) != want {
			t.Fatalf("number %d", i)
		}
		if got := r.Text(len(text)); got != text {
			t.Fatalf("text %d: %q", i, got)
		}
		taken += 4 + 8*len(row) + i%9 + 4 + len(text)
		if r.Left() != len(all)-taken || r.Failed() != api.OK {
			t.Fatalf("%d: %d left, want %d; error %d", i, r.Left(), len(all)-taken, r.Failed())
		}
		if last := taken == len(all); last != (r.End() == api.OK) || !last && r.End() != api.ErrForm {
			t.Fatalf("%d: End %d", i, r.End())
		}
	}
	wantAllTaken(t, "all", r)
}

func TestRowAboveMost(t *testing.T) {
	for long := range 5 {
		b := codec.Ints(make([]int, long)...)
		for _, most := range []int{long - 1, -1, -2, math.MinInt} {
			r := codec.New(b)
			if got := r.Ints(most); len(got) != 0 {
				t.Errorf("Ints(%d) of %d = %d", most, long, got)
			}
			wantFailed(t, "a row above most", r, api.ErrLong)
		}
	}
}

func TestTextAboveMost(t *testing.T) {
	for _, text := range []string{"", "a", "ab", "abcdefghijklmnopqrstuvwxyz"} {
		for _, most := range []int{len(text) - 1, -1, -2, math.MinInt} {
			r := codec.New(codec.Text(text))
			if got := r.Text(most); got != "" {
				t.Errorf("Text(%d) of %q = %q", most, text, got)
			}
			wantFailed(t, "a text above most", r, api.ErrLong)
		}
	}
}

// A count above most is told ahead of bytes that are not there, and a count
// that is not there whole ahead of both.
func TestWhichErrorIsFirst(t *testing.T) {
	for count := range 4 {
		b := bytes.Repeat([]byte{0xff}, count)
		for _, most := range []int{-1, 0, 5, math.MaxInt} {
			r := codec.New(b)
			r.Ints(most)
			wantFailed(t, "a row's count that is cut", r, api.ErrShort)
			r = codec.New(b)
			r.Text(most)
			wantFailed(t, "a text's count that is cut", r, api.ErrShort)
		}
	}
	for _, most := range []int{-1, 0, 8} {
		r := codec.New(codec.Put(9, 4))
		r.Ints(most)
		wantFailed(t, "a row above most and cut", r, api.ErrLong)
		r = codec.New(codec.Put(9, 4))
		r.Text(most)
		wantFailed(t, "a text above most and cut", r, api.ErrLong)
	}
	r := codec.New(codec.Put(9, 4))
	r.Ints(9)
	wantFailed(t, "a row that is cut", r, api.ErrShort)
}

func TestRowsCut(t *testing.T) {
	row, text := codec.Ints(1, -2, 3), codec.Text("abcdefgh")
	for long := range len(row) {
		r := codec.New(row[:long])
		if got := r.Ints(3); len(got) != 0 {
			t.Errorf("of %d bytes: %d", long, got)
		}
		wantFailed(t, "a row that is cut", r, api.ErrShort)
	}
	for long := range len(text) {
		r := codec.New(text[:long])
		if got := r.Text(8); got != "" {
			t.Errorf("of %d bytes: %q", long, got)
		}
		wantFailed(t, "a text that is cut", r, api.ErrShort)
	}
}

// Counts whose eightfold wraps round in 32 bits, or whose room no machine
// should make before it has seen the bytes.
func TestGreatCounts(t *testing.T) {
	for _, count := range []uint64{1 << 26, 1 << 28, 1 << 29, 1<<29 + 1, 1 << 31, 1<<31 + 1, 7 << 29, 1<<32 - 1} {
		for _, behind := range []int{0, 1, 8, 9, 800} {
			b := join(codec.Put(count, 4), make([]byte, behind))
			r := codec.New(b)
			if got := r.Ints(math.MaxInt); len(got) != 0 {
				t.Errorf("a row of %d: %d numbers", count, len(got))
			}
			wantFailed(t, "a row of a great count", r, api.ErrShort)
			r = codec.New(b)
			if got := r.Text(math.MaxInt); got != "" {
				t.Errorf("a text of %d: %d bytes", count, len(got))
			}
			wantFailed(t, "a text of a great count", r, api.ErrShort)
			r = codec.New(b)
			r.Ints(int(count - 1))
			wantFailed(t, "a row above most by one", r, api.ErrLong)
		}
	}
}

func TestFirstErrorStays(t *testing.T) {
	r := codec.New(join(codec.Ints(1, 2), codec.Ints(3)))
	r.Ints(1)
	r.Num(8)
	wantFailed(t, "too long, then short", r, api.ErrLong)
	r = codec.New([]byte{9})
	r.Num(2)
	r.Ints(-1)
	wantFailed(t, "short, then too long", r, api.ErrShort)
}

func TestEndAheadOfTheEnd(t *testing.T) {
	r := codec.New([]byte{1, 2, 3})
	for left := 3; left > 0; left-- {
		if r.End() != api.ErrForm || r.Failed() != api.OK || r.Left() != left {
			t.Errorf("%d left: End %d, Failed %d, Left %d", left, r.End(), r.Failed(), r.Left())
		}
		if got := r.Num(1); got != uint64(4-left) {
			t.Errorf("asked for the end, the reader took %d", got)
		}
	}
	wantAllTaken(t, "three bytes", r)
}

func TestReaderOfNothing(t *testing.T) {
	for _, r := range []*codec.Reader{codec.New(nil), codec.New([]byte{}), {}} {
		wantAllTaken(t, "nothing", r)
		if r.Num(0) != 0 {
			t.Error("Num(0)")
		}
		wantAllTaken(t, "nothing, behind Num(0)", r)
		r.Ints(5)
		wantFailed(t, "a row of nothing", r, api.ErrShort)
	}
}

func TestNilReader(t *testing.T) {
	var r *codec.Reader
	wantFailed(t, "nil", r, api.ErrNil)
}

func TestReaderHasItsOwnBytes(t *testing.T) {
	b := join(codec.Ints(7, 8), codec.Text("xyz"), codec.Put(300, 2))
	r := codec.New(b)
	row := r.Ints(2)
	for i := range b {
		b[i] = 0xff
	}
	text := r.Text(3)
	if text != "xyz" || r.Num(2) != 300 || !slices.Equal(row, []int{7, 8}) {
		t.Errorf("what was done to the bytes is seen: %d, %q", row, text)
	}
	wantAllTaken(t, "its own bytes", r)
}

func TestArgumentsStay(t *testing.T) {
	room := join(codec.Ints(1, 2, 3), codec.Text("behind"))
	before := slices.Clone(room)
	r := codec.New(room[:28])
	for i, row := 0, r.Ints(3); i < len(row); i++ {
		row[i] = -1
	}
	numbers := []int{4, 5, 6, 7}
	clear(codec.Ints(numbers[:2]...))
	if !bytes.Equal(room, before) || !slices.Equal(numbers, []int{4, 5, 6, 7}) {
		t.Error("what was handed in, or the room behind it, was changed")
	}
}

func TestAnswersAreNewMemory(t *testing.T) {
	answers := [][]byte{codec.Put(0x0101, 2), codec.Put(0x0101, 2), codec.Ints(1, 1), codec.Ints(1, 1), codec.Text("\x01"), codec.Text("\x01")}
	for i := range answers {
		others := join(answers[i+1:]...)
		clear(answers[i][:cap(answers[i])])
		if !bytes.Equal(others, join(answers[i+1:]...)) {
			t.Errorf("answer %d shares its memory with one behind it", i)
		}
	}
	r := codec.New(join(codec.Ints(1, 2), codec.Ints(3, 4), codec.Text("abc")))
	one := r.Ints(2)
	two := r.Ints(2)
	clear(one[:cap(one)])
	if text := r.Text(3); !slices.Equal(two, []int{3, 4}) || text != "abc" {
		t.Errorf("a row shares its memory: %d, %q", two, text)
	}
}

func TestReadersAreStrangers(t *testing.T) {
	b := codec.Put(0x0201, 2)
	one, two := codec.New(b), codec.New(b)
	one.Num(1)
	one.Num(9)
	if one.Failed() != api.ErrShort || two.Failed() != api.OK || two.Left() != 2 || two.Num(2) != 0x0201 {
		t.Errorf("two readers of the same bytes: %d, %d", one.Failed(), two.Failed())
	}
}

// model is the chapter word by word, on bytes that are all kept and counted.
type model struct {
	all   []byte
	taken int
	err   api.Errno
}

func (m *model) num(wide int) uint64 {
	wide = min(8, max(0, wide))
	if m.err == api.OK && len(m.all)-m.taken < wide {
		m.err = api.ErrShort
	}
	if m.err != api.OK {
		return 0
	}
	var eight [8]byte
	copy(eight[:], m.all[m.taken:m.taken+wide])
	m.taken += wide
	return binary.LittleEndian.Uint64(eight[:])
}

func (m *model) row(most int, wide int) []byte {
	n := m.num(4)
	if m.err == api.OK && (most < 0 || float64(n) > float64(most)) {
		m.err = api.ErrLong
	}
	if m.err == api.OK && float64(len(m.all)-m.taken) < float64(n)*float64(wide) {
		m.err = api.ErrShort
	}
	if m.err != api.OK {
		return nil
	}
	from := m.taken
	m.taken += int(n) * wide
	return m.all[from:m.taken]
}

func (m *model) left() int {
	if m.err != api.OK {
		return 0
	}
	return len(m.all) - m.taken
}

// rowBytes are numbers as they stand in a row, so that they can be held
// against bytes.
func rowBytes(l []int) []byte {
	var b []byte
	for _, n := range l {
		b = binary.LittleEndian.AppendUint64(b, uint64(n))
	}
	return b
}

func follow(t *testing.T, b []byte, asked []byte) {
	r, m := codec.New(b), &model{all: b}
	for i, x := range asked {
		most := int(x>>2) - 2
		if x>>2 == 63 {
			most = math.MaxInt
		}
		same := true
		switch x % 4 {
		case 0, 1:
			same = r.Num(most) == m.num(most)
		case 2:
			same = bytes.Equal(rowBytes(r.Ints(most)), m.row(most, 8))
		case 3:
			same = r.Text(most) == string(m.row(most, 1))
		}
		end := m.err
		if end == api.OK && m.left() > 0 {
			end = api.ErrForm
		}
		if !same || r.Left() != m.left() || r.Failed() != m.err || r.End() != end {
			t.Fatalf("%x asked %x, at %d: Left %d, Failed %d, End %d, want %d, %d, %d", b, asked, i, r.Left(), r.Failed(), r.End(), m.left(), m.err, end)
		}
	}
}

func TestAsTheModel(t *testing.T) {
	r := rand.New(rand.NewSource(2))
	for range 20000 {
		var b []byte
		for range r.Intn(5) {
			switch r.Intn(3) {
			case 0:
				b = append(b, codec.Put(r.Uint64(), r.Intn(9))...)
			case 1:
				b = append(b, codec.Ints(make([]int, r.Intn(4))...)...)
			case 2:
				b = append(b, codec.Text(strings.Repeat("t", r.Intn(9)))...)
			}
		}
		asked := make([]byte, r.Intn(8))
		r.Read(asked)
		follow(t, b[:r.Intn(len(b)+1)], asked)
		follow(t, b, asked)
	}
}

func FuzzAnyInput(f *testing.F) {
	f.Add([]byte(nil), []byte{0, 1, 2, 3}, uint64(0), 0, "")
	f.Add(codec.Ints(258, -1), []byte{18, 0}, uint64(258), 9, "ab")
	f.Add(join(codec.Text("abc"), codec.Ints(1)), []byte{23, 255, 254, 0}, uint64(math.MaxUint64), math.MinInt, "\xff")
	f.Add([]byte{255, 255, 255, 255}, []byte{254, 255}, uint64(1)<<63, math.MaxInt, "\x00")
	f.Fuzz(func(t *testing.T, b []byte, asked []byte, n uint64, wide int, s string) {
		follow(t, b, asked)
		if p := codec.Put(n, wide); !bytes.Equal(codec.Put(codec.New(p).Num(wide), wide), p) {
			t.Errorf("Put(%d, %d)", n, wide)
		}
		if got := codec.New(codec.Text(s)).Text(len(s)); got != s {
			t.Errorf("Text(%q) comes back as %q", s, got)
		}
		// What was taken was put: written again it is the bytes it was of.
		r := codec.New(b)
		if l := r.Ints(len(b)); r.Failed() == api.OK && !bytes.Equal(codec.Ints(l...), b[:len(b)-r.Left()]) {
			t.Errorf("%x is taken as %d", b, l)
		}
		r = codec.New(b)
		if s := r.Text(len(b)); r.Failed() == api.OK && !bytes.Equal(codec.Text(s), b[:len(b)-r.Left()]) {
			t.Errorf("%x is taken as %q", b, s)
		}
	})
}
