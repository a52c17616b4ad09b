package gr_test

import (
	"math"
	"math/big"
	"math/rand"
	"regexp"
	"slices"
	"strconv"
	"strings"
	"testing"

	"postroad/api"
	"postroad/gr"
)

func arcs(numbers ...int) []api.Arc {
	l := []api.Arc{}
	for i := 0; i+2 < len(numbers); i += 3 {
		l = append(l, api.Arc{From: numbers[i], To: numbers[i+1], W: numbers[i+2]})
	}
	return l
}

func mapOf(n int, numbers ...int) api.Map { return api.Map{N: n, Arcs: arcs(numbers...)} }

// equal does without Same, which is tested here, too.
func equal(a api.Map, b api.Map) bool {
	if a.N != b.N || len(a.Arcs) != len(b.Arcs) {
		return false
	}
	for i, x := range a.Arcs {
		if y := b.Arcs[i]; x.From != y.From || x.To != y.To || x.W != y.W {
			return false
		}
	}
	return true
}

func someMaps() []api.Map {
	maps := []api.Map{
		{}, {N: 1}, {N: api.MaxVertex}, {Arcs: []api.Arc{}},
		mapOf(1, 0, 0, 0), mapOf(2, 0, 1, 7), mapOf(2, 0, 1, 5, 0, 1, 5, 0, 1, 3, 1, 1, 0),
		mapOf(api.MaxVertex, api.MaxVertex-1, 0, api.MaxWeight, 0, api.MaxVertex-1, api.MaxWeight-1),
	}
	r := rand.New(rand.NewSource(1))
	for many := range 60 {
		m := api.Map{N: 1 + r.Intn(1<<r.Intn(25))}
		for range many {
			m.Arcs = append(m.Arcs, api.Arc{From: r.Intn(m.N), To: r.Intn(m.N), W: r.Intn(1<<r.Intn(32) + 1)})
		}
		maps = append(maps, m)
	}
	return maps
}

func wantMap(t *testing.T, text string, want api.Map) {
	t.Helper()
	if m, e, at := gr.Parse(text); e != api.OK || at != 0 || !equal(m, want) {
		t.Errorf("Parse(%.80q): %v, error %d, line %d, want %v", text, m, e, at, want)
	}
}

func wantLine(t *testing.T, text string, want int) {
	t.Helper()
	if m, e, at := gr.Parse(text); e != api.ErrLine || at != want || m.N != 0 || m.Arcs != nil {
		t.Errorf("Parse(%.80q): %v, error %d, line %d, want ErrLine, line %d", text, m, e, at, want)
	}
}

func wantCheck(t *testing.T, what string, m api.Map, want api.Errno) {
	t.Helper()
	if e := gr.Check(m); e != want {
		t.Errorf("%s: Check: error %d, want %d", what, e, want)
	}
	if want == api.OK {
		return
	}
	if s, e := gr.Print(m); e != want || s != "" {
		t.Errorf("%s: Print: %.80q, error %d, want %d", what, s, e, want)
	}
}

func TestExample(t *testing.T) {
	wantMap(t, "p sp 2 1\na 1 2 7\n", mapOf(2, 0, 1, 7))
	if s, e := gr.Print(mapOf(2, 0, 1, 7)); s != "p sp 2 1\na 1 2 7\n" || e != api.OK {
		t.Errorf("Print: %q, error %d", s, e)
	}
}

func TestCheckPlaces(t *testing.T) {
	for n, want := range map[int]api.Errno{
		math.MinInt: api.ErrArg, -1: api.ErrArg, 0: api.OK, 1: api.OK, api.MaxVertex: api.OK,
		api.MaxVertex + 1: api.ErrLong, math.MaxInt: api.ErrLong,
	} {
		wantCheck(t, "N "+strconv.Itoa(n), api.Map{N: n}, want)
	}
}

func TestCheckArcs(t *testing.T) {
	good, bad := []int{0, 1, 4}, []int{math.MinInt, -1, 5, 6, math.MaxInt}
	for _, v := range good {
		wantCheck(t, "From and To", mapOf(5, v, 2, 9, 2, v, 9), api.OK)
	}
	for _, v := range bad {
		wantCheck(t, "From", mapOf(5, v, 2, 9), api.ErrArg)
		wantCheck(t, "To", mapOf(5, 2, v, 9), api.ErrArg)
	}
	for _, w := range []int{0, 1, 1<<31 - 1, 1 << 31} {
		wantCheck(t, "W", mapOf(5, 0, 1, w), api.OK)
	}
	for _, w := range []int{math.MinInt, -1 << 31, -1, 1<<31 + 1, 1 << 32, math.MaxInt} {
		wantCheck(t, "W", mapOf(5, 0, 1, w), api.ErrArg)
	}
	for _, n := range []int{math.MinInt, -1, 0} {
		wantCheck(t, "arcs without places", mapOf(n, 0, 0, 0), api.ErrArg)
	}
}

func TestCheckEachArc(t *testing.T) {
	m := mapOf(3, 0, 1, 1, 1, 2, 1, 2, 0, 1, 0, 0, 1)
	for i := range m.Arcs {
		for _, wrong := range arcs(3, 0, 1, 0, 3, 1, 0, 0, -1) {
			spoilt := api.Map{N: m.N, Arcs: slices.Clone(m.Arcs)}
			spoilt.Arcs[i] = wrong
			wantCheck(t, "one wrong arc", spoilt, api.ErrArg)
		}
	}
	wantCheck(t, "none", m, api.OK)
}

// The pages of these arcs are never touched, so they take no room.
func TestCheckHowManyArcs(t *testing.T) {
	l := make([]api.Arc, api.MaxArcs+1)
	for _, n := range []int{math.MinInt, -1, 0, 1, math.MaxInt} {
		wantCheck(t, "too many", api.Map{N: n, Arcs: l}, api.ErrLong)
	}
	l[0].To = 1
	wantCheck(t, "too many, and one wrong", api.Map{N: 1, Arcs: l}, api.ErrLong)
	wantCheck(t, "as many as may be, and one wrong", api.Map{N: 1, Arcs: l[:api.MaxArcs]}, api.ErrArg)
}

func TestErrorsInOrder(t *testing.T) {
	wantCheck(t, "N above, and a wrong arc", mapOf(api.MaxVertex+1, -1, -1, -1), api.ErrLong)
}

func wantNumber(t *testing.T, s string, most int, want int) {
	t.Helper()
	if n, ok := gr.Number(s, most); n != want || !ok {
		t.Errorf("Number(%q, %d) = %d, %t, want %d", s, most, n, ok, want)
	}
}

func wantNoNumber(t *testing.T, s string, most int) {
	t.Helper()
	if n, ok := gr.Number(s, most); n != 0 || ok {
		t.Errorf("Number(%q, %d) = %d, %t, want none", s, most, n, ok)
	}
}

func TestNumberUpToMost(t *testing.T) {
	for _, n := range []int{0, 1, 7, 9, 10, 99, 100, 1<<31 - 1, 1 << 31, 4294967296, 999999999, 1000000000, 9999999999} {
		s := strconv.Itoa(n)
		for _, most := range []int{n, n + 1, math.MaxInt} {
			wantNumber(t, s, most, n)
		}
		for _, most := range []int{n - 1, -1, -n - 1, math.MinInt} {
			wantNoNumber(t, s, most)
		}
	}
}

func TestNumberOfNoDigits(t *testing.T) {
	for _, s := range []string{
		"", " ", "-", "+", "-0", "-1", "+1", "00", "01", "007", "0000000000", "1 ", " 1", "1\n", "1\r", "1\x00", "\x001",
		"1.0", "1e3", "0x1", "1_0", "a", "/", ":", "1/", "1:", "9a9", "١", "1١", "１", "\xff", "1\xff", "\xb1", "12345678901",
		"10000000000", "00000000001", "99999999999", "18446744073709551617", strings.Repeat("1", 1000),
	} {
		for _, most := range []int{math.MaxInt, 1 << 40, 100, 0, -1} {
			wantNoNumber(t, s, most)
		}
	}
}

func TestNumberEveryByte(t *testing.T) {
	for x := range 256 {
		for at := range 3 {
			b := []byte("111")
			b[at] = byte(x)
			if x < '0' || x > '9' || x == '0' && at == 0 {
				wantNoNumber(t, string(b), math.MaxInt)
				continue
			}
			want, _ := strconv.Atoi(string(b))
			wantNumber(t, string(b), math.MaxInt, want)
		}
	}
}

func TestLinesThatAreNone(t *testing.T) {
	want := mapOf(2, 0, 1, 7)
	for _, text := range []string{
		"p sp 2 1\na 1 2 7", "p sp 2 1\na 1 2 7\n", "p sp 2 1\na 1 2 7\n\n", "\n\np sp 2 1\n\n\na 1 2 7\n \n",
		"c\np sp 2 1\nc a 1 2 8\na 1 2 7\nc p sp 9 9", "   c x\np sp 2 1\n      \na 1 2 7\n c",
		"c \xff\x00\r\t a b c d e f g\np sp 2 1\na 1 2 7", " p  sp   2    1     \n   a  1 2      7 ",
		"c" + strings.Repeat(" c", 100000) + "\np sp 2 1\n" + strings.Repeat(" ", 100000) + "\na 1 2 7\n",
		"p sp 2 1\n" + strings.Repeat(" ", 5000) + "a 1 2" + strings.Repeat(" ", 5000) + "7",
		strings.Repeat("\n", 5000) + "p sp 2 1\na 1 2 7" + strings.Repeat("\n", 5000),
	} {
		wantMap(t, text, want)
	}
}

func TestHowManyLines(t *testing.T) {
	for text, want := range map[string]int{
		"": 1, "\n": 2, "\n\n": 3, " ": 2, " \n": 2, "c": 2, "c\n": 2, "c\n\n": 3, "\nc": 3,
		"p sp 2 1": 2, "p sp 2 1\n": 2, "p sp 2 1\n\n": 3, "\np sp 2 2\n\na 1 1 0": 5, "p sp 2 2\na 1 1 0\n": 3, "p sp 2 2\na 1 1 0\n\nc x\n": 5,
		strings.Repeat("\n", 100000): 100001,
	} {
		wantLine(t, text, want)
	}
}

func TestNoSuchLine(t *testing.T) {
	for _, line := range []string{
		"x", "pp sp 1 1", "P sp 1 1", "A 1 1 1", "C", "cc", "chello", "\tc", "c\t", "c\r", "\r", "\t", "\x00", "\xc2\xa0", "\v", "aa 1 1 1", "1", "sp 1 1", "p\tsp 1 1", "a\t1 1 1", "ä 1 1 1", "\xef\xbb\xbfc",
	} {
		wantLine(t, line, 1)
		wantLine(t, line+"\n", 1)
		wantLine(t, "\n  "+line+"  \np sp 1 1\na 1 1 1", 2)
		wantLine(t, "p sp 1 1\n"+line+"\na 1 1 1", 2)
		wantLine(t, "p sp 1 1\na 1 1 1\n"+line, 3)
	}
}

func TestHead(t *testing.T) {
	for line, n := range map[string]int{"p sp 0 0": 0, "p sp 1 0": 1, "p sp 16777216 0": api.MaxVertex} {
		wantMap(t, line, api.Map{N: n})
	}
	for _, line := range []string{
		"p", "p sp", "p sp 1", "p sp 1 0 0", "p sp 1 0 x", "p sp 1 0 c", "p max 1 0", "p SP 1 0", "p spp 1 0", "p s 1 0", "p 1 0", "p 1 0 sp", "p 1 0 0",
		"p sp x 0", "p sp 1 x", "p sp 01 0", "p sp 1 00", "p sp -1 0", "p sp 1 -1", "p sp +1 0", "p sp 1 0\r", "p sp\t1 0",
		"p sp 16777217 0", "p sp 4294967297 0", "p sp 10000000000 0", "p sp 1 67108865", "p sp 1 4294967296", "p sp 1 10000000000", "p sp 18446744073709551617 0", "p sp 1 18446744073709551616",
	} {
		wantLine(t, line, 1)
		wantLine(t, "c\n\n"+line+"\n", 3)
	}
	wantLine(t, "p sp 1 67108864", 2) // as many as may be, but there are none
	wantLine(t, "p sp 0 1", 2)
}

func TestSecondHead(t *testing.T) {
	wantLine(t, "p sp 2 0\np sp 2 0\n", 2)
	wantLine(t, "p sp 2 1\na 1 2 7\np sp 2 1\n", 3)
	wantLine(t, "p sp 2 1\np sp 2 1\na 1 2 7\n", 2)
	wantLine(t, "p sp 0 0\nc\np sp 0 0", 3)
	wantLine(t, "p sp 0 0\np", 2)
}

func TestArcs(t *testing.T) {
	wantMap(t, "p sp 3 3\na 1 1 0\na 3 1 2147483648\na 2 3 10\n", mapOf(3, 0, 0, 0, 2, 0, 1<<31, 1, 2, 10))
	wantMap(t, "p sp 16777216 1\na 16777216 1 5", mapOf(api.MaxVertex, api.MaxVertex-1, 0, 5))
	wantMap(t, "p sp 2 4\na 1 2 5\na 1 2 5\na 2 1 3\na 1 2 4\n", mapOf(2, 0, 1, 5, 0, 1, 5, 1, 0, 3, 0, 1, 4))
	for _, line := range []string{
		"a", "a 1", "a 1 2", "a 1 2 3 4", "a 1 2 3 c", "a 0 1 1", "a 1 0 1", "a 3 1 1", "a 1 3 1", "a -1 1 1", "a 1 -1 1", "a 1 1 -1", "a 1 1 2147483649", "a 1 1 4294967296", "a 1 1 10000000000", "a 1 1 18446744073709551617",
		"a 4294967297 1 1", "a 1 18446744073709551617 1", "a 01 1 1", "a 1 01 1", "a 1 1 01", "a x 1 1", "a 1 x 1", "a 1 1 x", "a 1 1 1\r", "a 1 1\t1", "a +1 1 1", "a sp 1 1", "a sp 1 1 1",
	} {
		wantLine(t, "p sp 2 2\n"+line, 2)
		wantLine(t, "p sp 2 2\na 1 2 3\n"+line+"\n", 3)
	}
	wantLine(t, "p sp 0 1\na 1 1 1", 2)
	wantLine(t, "p sp 0 1\na 0 0 0", 2)
}

func TestArcsAheadAndBehind(t *testing.T) {
	wantLine(t, "a 1 1 1\n", 1)
	wantLine(t, "a 1 1 1\np sp 1 1\n", 1)
	wantLine(t, "c\n\na 1 1 1\np sp 1 1\na 1 1 1\n", 3)
	wantLine(t, "p sp 2 0\na 1 1 1\n", 2)
	wantLine(t, "p sp 2 1\na 1 1 1\nc\na 1 1 1\n", 4)
	wantLine(t, "p sp 2 2\na 1 1 1\na 1 1 1\na 1 1 1", 4)
	wantLine(t, "p sp 2 3\na 1 1 1\na 1 1 1", 4)
}

func TestFirstFaultIsTold(t *testing.T) {
	wantLine(t, "p sp 2 1\na 1 3 1\nx\np sp 2 1\n", 2)
	wantLine(t, "x\np sp 2 5\n", 1)
	wantLine(t, "p sp 2 5\na 1 1 1\nx\na 9 9 9", 3)
}

func TestPrintKnown(t *testing.T) {
	for want, m := range map[string]api.Map{
		"p sp 0 0\n":          {},
		"p sp 16777216 0\n":   {N: api.MaxVertex},
		"p sp 1 1\na 1 1 0\n": mapOf(1, 0, 0, 0),
		"p sp 3 3\na 3 1 2147483648\na 1 2 5\na 1 2 5\n": mapOf(3, 2, 0, 1<<31, 0, 1, 5, 0, 1, 5),
	} {
		if s, e := gr.Print(m); s != want || e != api.OK {
			t.Errorf("Print(%v): %q, error %d, want %q", m, s, e, want)
		}
	}
}

func TestThereAndBack(t *testing.T) {
	for _, m := range someMaps() {
		s, e := gr.Print(m)
		if e != api.OK {
			t.Fatalf("Print(%v): error %d", m, e)
		}
		wantMap(t, s, m)
		wantMap(t, strings.TrimSuffix(s, "\n"), m)
		wantMap(t, "c x\n\n"+strings.ReplaceAll(strings.ReplaceAll(s, " ", "   "), "\n", " \nc\n"), m)
	}
}

// What is spoilt is told: of a text without its last line an arc is missing,
// with one line twice there is one too many.
func TestLinesCutOrGrown(t *testing.T) {
	for _, m := range someMaps() {
		s, _ := gr.Print(m)
		lines := strings.SplitAfter(strings.TrimSuffix(s, "\n"), "\n")
		for long := range len(lines) {
			wantLine(t, strings.Join(lines[:long], ""), long+1)
		}
		wantLine(t, s+"a 1 1 1\n", len(lines)+1)
		wantLine(t, s+lines[0], len(lines)+1)
	}
}

func TestSame(t *testing.T) {
	maps := someMaps()
	for i, a := range maps {
		for k, b := range maps {
			if got := gr.Same(a, b); got != equal(a, b) || i == k && !got {
				t.Errorf("Same(%v, %v) = %t", a, b, got)
			}
		}
	}
	a := mapOf(3, 0, 1, 5, 1, 2, 6)
	for _, b := range []api.Map{
		mapOf(4, 0, 1, 5, 1, 2, 6), mapOf(3, 1, 2, 6, 0, 1, 5), mapOf(3, 0, 1, 5), mapOf(3, 0, 1, 5, 1, 2, 6, 1, 2, 6), mapOf(3),
		mapOf(3, 0, 1, 5, 0, 2, 6), mapOf(3, 0, 1, 5, 1, 1, 6), mapOf(3, 0, 1, 5, 1, 2, 7), mapOf(3, 1, 0, 5, 1, 2, 6),
	} {
		if gr.Same(a, b) || gr.Same(b, a) {
			t.Errorf("Same(%v, %v)", a, b)
		}
	}
	if !gr.Same(a, mapOf(3, 0, 1, 5, 1, 2, 6)) || !gr.Same(api.Map{N: 2}, api.Map{N: 2, Arcs: []api.Arc{}}) {
		t.Error("the same maps are none")
	}
}

// Same asks nothing of maps that may not be.
func TestSameOfAnything(t *testing.T) {
	wrong := mapOf(-7, -1, math.MaxInt, math.MinInt)
	if !gr.Same(wrong, mapOf(-7, -1, math.MaxInt, math.MinInt)) || gr.Same(wrong, api.Map{}) || gr.Same(api.Map{N: 1 << 40}, wrong) {
		t.Error("Same of maps that may not be")
	}
}

func TestArgumentsStay(t *testing.T) {
	l := arcs(0, 1, 5, 1, 2, 6, 2, 0, 7, 9, 9, 9)
	a, b := api.Map{N: 3, Arcs: l[:3]}, mapOf(3, 0, 1, 5, 1, 2, 6, 2, 0, 7)
	gr.Check(a)
	gr.Print(a)
	gr.Same(a, b)
	if !slices.Equal(l, arcs(0, 1, 5, 1, 2, 6, 2, 0, 7, 9, 9, 9)) {
		t.Errorf("changed: %v", l)
	}
}

func TestAnswersAreNewMemory(t *testing.T) {
	text := "p sp 3 3\na 1 2 5\na 2 3 6\na 3 1 7\n"
	a, _, _ := gr.Parse(text)
	b, _, _ := gr.Parse(text)
	for i := range a.Arcs {
		a.Arcs[i] = api.Arc{From: -1, To: -1, W: -1}
	}
	_ = append(a.Arcs, api.Arc{From: -2})
	want := mapOf(3, 0, 1, 5, 1, 2, 6, 2, 0, 7)
	if !equal(b, want) {
		t.Errorf("two answers share arcs: %v", b)
	}
	wantMap(t, text, want)
}

// The model is the chapter word by word, by ways that the program does not go.
var (
	aNumber = regexp.MustCompile(`\A(0|[1-9][0-9]{0,9})\z`)
	blanks  = regexp.MustCompile(` +`)
)

func modelNumber(s string, least int, most int) (int, bool) {
	if !aNumber.MatchString(s) {
		return 0, false
	}
	x, _ := new(big.Int).SetString(s, 10)
	if x.Cmp(big.NewInt(int64(least))) < 0 || x.Cmp(big.NewInt(int64(most))) > 0 {
		return 0, false
	}
	return int(x.Int64()), true
}

func modelNumbers(words []string, bounds ...int) []int {
	l := []int{}
	for i, w := range words {
		n, ok := modelNumber(w, bounds[2*i], bounds[2*i+1])
		if !ok {
			return nil
		}
		l = append(l, n)
	}
	return l
}

func modelWords(line string) []string {
	l := blanks.Split(line, -1)
	return slices.DeleteFunc(l, func(w string) bool { return w == "" })
}

func modelParse(s string) (api.Map, api.Errno, int) {
	lines := strings.Split(s, "\n")
	if lines[len(lines)-1] == "" {
		lines = lines[:len(lines)-1]
	}
	m, many := api.Map{}, -1
	for i, line := range lines {
		words := modelWords(line)
		wrong := true
		switch {
		case len(words) == 0 || words[0] == "c":
			wrong = false
		case len(words) != 4:
		case words[0] == "p" && words[1] == "sp" && many < 0:
			if l := modelNumbers(words[2:], 0, 1<<24, 0, 1<<26); l != nil {
				m.N, many, wrong = l[0], l[1], false
			}
		case words[0] == "a" && len(m.Arcs) < many:
			if l := modelNumbers(words[1:], 1, m.N, 1, m.N, 0, 1<<31); l != nil {
				m.Arcs, wrong = append(m.Arcs, api.Arc{From: l[0] - 1, To: l[1] - 1, W: l[2]}), false
			}
		}
		if wrong {
			return api.Map{}, api.ErrLine, i + 1
		}
	}
	if many < 0 || len(m.Arcs) < many {
		return api.Map{}, api.ErrLine, len(lines) + 1
	}
	return m, api.OK, 0
}

func wantAsModel(t *testing.T, text string) bool {
	t.Helper()
	m, e, at := gr.Parse(text)
	wantM, wantE, wantAt := modelParse(text)
	if e != wantE || at != wantAt || !equal(m, wantM) {
		t.Fatalf("Parse(%q): %v, error %d, line %d, want %v, %d, %d", text, m, e, at, wantM, wantE, wantAt)
	}
	if e != api.OK {
		return false
	}
	if x := gr.Check(m); x != api.OK {
		t.Fatalf("Check of what was read of %q: error %d", text, x)
	}
	printed, x := gr.Print(m)
	again, y, _ := gr.Parse(printed)
	if x != api.OK || y != api.OK || !gr.Same(m, again) {
		t.Fatalf("%q: printed as %q, error %d, read again as %v, error %d", text, printed, x, again, y)
	}
	return true
}

func spoil(r *rand.Rand, text string) string {
	pieces := []string{"", " ", "\n", "0", "1", "9", "a", "c", "p", "sp", "\t", "\r", "-", "\x00", "\xff", " 1", "\na 1 1 1", "\nc ", "é"}
	for range r.Intn(3) {
		from := r.Intn(len(text) + 1)
		to := min(len(text), from+r.Intn(3))
		text = text[:from] + pieces[r.Intn(len(pieces))] + text[to:]
	}
	return text
}

func TestSpoiltTextsAsTheModel(t *testing.T) {
	r := rand.New(rand.NewSource(2))
	good := 0
	for range 20000 {
		m := api.Map{N: 1 + r.Intn(12)}
		for range r.Intn(4) {
			m.Arcs = append(m.Arcs, api.Arc{From: r.Intn(m.N), To: r.Intn(m.N), W: r.Intn(1<<r.Intn(32) + 1)})
		}
		text, _ := gr.Print(m)
		if wantAsModel(t, spoil(r, text)) {
			good++
		}
	}
	if good < 2000 || good > 18000 {
		t.Errorf("%d of 20000 texts could be read: the other kind is hardly tested", good)
	}
}

func TestAnyTextAsTheModel(t *testing.T) {
	pieces := []string{" ", " ", "\n", "\n", "\n\n", "c", "p", "a", "p sp 2 1\n", "p sp 1 0\n", "p sp 2 2\n", "a 1 2 3\n", "a 2 2 0\n", "sp", "0", "1", "2", "3", "10", "2147483648", "\t", "\xff"}
	r := rand.New(rand.NewSource(3))
	for range 20000 {
		var text strings.Builder
		for range r.Intn(12) {
			text.WriteString(pieces[r.Intn(len(pieces))])
		}
		wantAsModel(t, text.String())
	}
}

func TestMany(t *testing.T) {
	m := api.Map{N: 1000}
	for i := range 200000 {
		m.Arcs = append(m.Arcs, api.Arc{From: i % 1000, To: i / 7 % 1000, W: i * 9973 % (api.MaxWeight + 1)})
	}
	s, e := gr.Print(m)
	if e != api.OK {
		t.Fatalf("Print: error %d", e)
	}
	got, e, at := gr.Parse(s)
	if e != api.OK || at != 0 || !gr.Same(got, m) {
		t.Errorf("Parse: error %d, line %d", e, at)
	}
}

func FuzzParse(f *testing.F) {
	for _, text := range []string{"", "\n", "p sp 2 1\na 1 2 7\n", "c x\n\np sp 0 0", "p sp 2 1\na 1 3 1"} {
		f.Add(text)
	}
	f.Fuzz(func(t *testing.T, text string) { wantAsModel(t, text) })
}
