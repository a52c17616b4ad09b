package crc_test

import (
	"bytes"
	"hash/crc32"
	"math"
	"math/rand"
	"slices"
	"testing"

	"postroad/api"
	"postroad/crc"
)

// slowStep and slowMore follow the chapter word by word, so that the tables
// and squares of the program are held against something without either.
func slowStep(n uint32) uint32 {
	half := n / 2
	if n%2 == 1 {
		return half ^ 0xedb88320
	}
	return half
}

func slowMore(n uint32, b []byte) uint32 {
	n ^= 0xffffffff
	for _, x := range b {
		n ^= uint32(x)
		for range 8 {
			n = slowStep(n)
		}
	}
	return n ^ 0xffffffff
}

// someBytes has the same bytes in every run.
func someBytes(seed int64, long int) []byte {
	b := make([]byte, long)
	rand.New(rand.NewSource(seed)).Read(b)
	return b
}

func someLists() [][]byte {
	lists := [][]byte{nil, {}, []byte("123456789"), bytes.Repeat([]byte{0}, 300), bytes.Repeat([]byte{0xff}, 300)}
	for x := range 256 {
		lists = append(lists, []byte{byte(x)})
	}
	for long := range 70 {
		lists = append(lists, someBytes(int64(long), long))
	}
	return append(lists, someBytes(1, 1<<16), someBytes(2, 1<<16+1))
}

func someSums() []uint32 {
	return []uint32{0, 1, 2, 7, 0x80000000, 0x7fffffff, 0xfffffffe, 0xffffffff, 0xedb88320, 0xcbf43926}
}

func TestSumKnown(t *testing.T) {
	for text, want := range map[string]uint32{
		"":                 0,
		"\x00":             0xd202ef8d,
		"\x00\x00\x00\x00": 0x2144df1c,
		"\xff\xff\xff\xff": 0xffffffff,
		"a":                0xe8b7be43,
		"abc":              0x352441c2,
		"123456789":        0xcbf43926,
		"The quick brown fox jumps over the lazy dog": 0x414fa339,
	} {
		if got := crc.Sum([]byte(text)); got != want {
			t.Errorf("Sum(%q) = %08x, want %08x", text, got, want)
		}
	}
}

func TestSumAsPublished(t *testing.T) {
	for _, b := range someLists() {
		if got, want := crc.Sum(b), crc32.ChecksumIEEE(b); got != want {
			t.Errorf("Sum of %d bytes = %08x, want %08x", len(b), got, want)
		}
	}
}

func TestMoreStepByStep(t *testing.T) {
	for _, n := range someSums() {
		for _, b := range someLists() {
			if got, want := crc.More(n, b), slowMore(n, b); got != want {
				t.Errorf("More(%08x, %d bytes) = %08x, want %08x", n, len(b), got, want)
			}
		}
	}
}

func TestMoreOfNothing(t *testing.T) {
	for _, n := range someSums() {
		if a, b := crc.More(n, nil), crc.More(n, []byte{}); a != n || b != n {
			t.Errorf("More(%08x, nothing) = %08x, %08x", n, a, b)
		}
	}
}

func TestTwoBehindOneAnother(t *testing.T) {
	all := someBytes(3, 600)
	want := crc.Sum(all)
	for cut := range len(all) + 1 {
		first, second := all[:cut], all[cut:]
		if got := crc.More(crc.Sum(first), second); got != want {
			t.Errorf("More, cut at %d: %08x, want %08x", cut, got, want)
		}
		if got := crc.Join(crc.Sum(first), crc.Sum(second), len(second)); got != want {
			t.Errorf("Join, cut at %d: %08x, want %08x", cut, got, want)
		}
	}
}

func TestJoinLongList(t *testing.T) {
	first, second := someBytes(4, 1000), someBytes(5, 1<<20+12345)
	want := crc.Sum(append(slices.Clone(first), second...))
	if got := crc.Join(crc.Sum(first), crc.Sum(second), len(second)); got != want {
		t.Errorf("%08x, want %08x", got, want)
	}
}

func TestJoinStepByStep(t *testing.T) {
	for _, a := range someSums() {
		n := a
		for long := range 2000 {
			for _, b := range []uint32{0, 9, 0xffffffff} {
				if got := crc.Join(a, b, long); got != n^b {
					t.Fatalf("Join(%08x, %08x, %d) = %08x, want %08x", a, b, long, got, n^b)
				}
			}
			for range 8 {
				n = slowStep(n)
			}
		}
	}
}

func TestJoinBelowNought(t *testing.T) {
	for _, long := range []int{-1, -2, -4, -8, -1 << 20, math.MinInt32, math.MinInt + 1, math.MinInt} {
		for _, a := range someSums() {
			for _, b := range someSums() {
				if got := crc.Join(a, b, long); got != a^b {
					t.Errorf("Join(%08x, %08x, %d) = %08x, want %08x", a, b, long, got, a^b)
				}
			}
		}
	}
}

// Steps come round after 2^32 - 1 of them. 8 times the greatest int is four
// short of a whole number of rounds, however wide an int is: a count of steps
// that wraps round is seen here.
func TestJoinGreatestInt(t *testing.T) {
	for _, a := range someSums() {
		n := crc.Join(a, 0, math.MaxInt)
		for range 4 {
			n = slowStep(n)
		}
		if n != a {
			t.Errorf("Join(%08x, 0, greatest) and four steps: %08x", a, n)
		}
	}
}

func TestJoinAddsUp(t *testing.T) {
	r := rand.New(rand.NewSource(6))
	for range 300 {
		x, y := int(r.Uint64()>>(2+r.Intn(60))), int(r.Uint64()>>(2+r.Intn(60)))
		a := r.Uint32()
		if one, two := crc.Join(a, 0, x+y), crc.Join(crc.Join(a, 0, x), 0, y); one != two {
			t.Errorf("%08x by %d and %d: %08x, at once %08x", a, x, y, two, one)
		}
	}
}

func TestWrapKnown(t *testing.T) {
	for text, want := range map[string]string{
		"":                 "\x00\x00\x00\x00",
		"a":                "a\x43\xbe\xb7\xe8",
		"123456789":        "123456789\x26\x39\xf4\xcb",
		"\xff\xff\xff\xff": "\xff\xff\xff\xff\xff\xff\xff\xff",
	} {
		if got := crc.Wrap([]byte(text)); string(got) != want {
			t.Errorf("Wrap(%q) = %q, want %q", text, got, want)
		}
	}
}

func TestThereAndBack(t *testing.T) {
	for _, b := range someLists() {
		w := crc.Wrap(b)
		if len(w) != len(b)+4 || !bytes.Equal(w[:len(b)], b) {
			t.Fatalf("Wrap of %d bytes does not begin with them", len(b))
		}
		if got, e := crc.Open(w); e != api.OK || !bytes.Equal(got, b) {
			t.Errorf("Open(Wrap of %d bytes): %d bytes, %d", len(b), len(got), e)
		}
		twice, e := crc.Open(crc.Wrap(w))
		if e != api.OK || !bytes.Equal(twice, w) {
			t.Errorf("wrapped twice, %d bytes: error %d", len(b), e)
		}
	}
}

func wantForm(t *testing.T, what string, b []byte) {
	t.Helper()
	if got, e := crc.Open(b); e != api.ErrForm || len(got) != 0 {
		t.Errorf("%s: Open(%q) = %q, %d, want ErrForm", what, b, got, e)
	}
}

func TestOpenTooShort(t *testing.T) {
	for long := range 4 {
		wantForm(t, "noughts", make([]byte, long))
		wantForm(t, "ones", bytes.Repeat([]byte{0xff}, long))
	}
	wantForm(t, "nil", nil)
}

func TestOpenOfNoBytes(t *testing.T) {
	if got, e := crc.Open([]byte{0, 0, 0, 0}); e != api.OK || len(got) != 0 {
		t.Errorf("%q, %d", got, e)
	}
	for i := range 32 {
		b := make([]byte, 4)
		b[i/8] = 1 << (i % 8)
		wantForm(t, "a bit that is not nought", b)
	}
}

// A CRC-32 tells every change that lies within 32 bits.
func TestOpenSpoilt(t *testing.T) {
	for _, text := range []string{"", "a", "123456789", "\x00\x00\x00", string(someBytes(7, 40))} {
		w := crc.Wrap([]byte(text))
		for i := range w {
			for x := 1; x < 256; x++ {
				bad := slices.Clone(w)
				bad[i] ^= byte(x)
				wantForm(t, "a byte changed", bad)
			}
		}
		for i := range len(w) - 3 {
			for _, x := range []byte{0x01, 0x80, 0xff} {
				bad := slices.Clone(w)
				for k := range 4 {
					bad[i+k] ^= x
				}
				wantForm(t, "four bytes changed", bad)
			}
		}
	}
}

func TestOpenCutOrGrown(t *testing.T) {
	w := crc.Wrap([]byte("123456789"))
	for long := range len(w) {
		wantForm(t, "cut behind", w[:long])
		wantForm(t, "cut in front", w[len(w)-long:])
	}
	for x := range 256 {
		wantForm(t, "grown in front", append([]byte{byte(x)}, w...))
		wantForm(t, "grown behind", append(slices.Clone(w), byte(x)))
	}
}

func TestOpenSumTurnedRound(t *testing.T) {
	wantForm(t, "the greatest byte first", []byte("123456789\xcb\xf4\x39\x26"))
	wantForm(t, "the sum without its last xor", []byte("123456789\xd9\xc6\x0b\x34"))
	wantForm(t, "the sum in front", []byte("\x26\x39\xf4\xcb123456789"))
}

func TestArgumentsStay(t *testing.T) {
	room := someBytes(8, 64)
	before := slices.Clone(room)
	b := room[8:40]
	crc.Sum(b)
	crc.More(5, b)
	crc.Wrap(b)
	crc.Open(b)
	if !bytes.Equal(room, before) {
		t.Error("what was handed in, or the room behind it, was changed")
	}
}

func TestAnswersAreNewMemory(t *testing.T) {
	b := []byte("123456789")
	w, again := crc.Wrap(b), crc.Wrap(b)
	clear(w[:cap(w)])
	if string(b) != "123456789" || string(again) != "123456789\x26\x39\xf4\xcb" {
		t.Errorf("Wrap shares its memory: %q, %q", b, again)
	}
	one, _ := crc.Open(again)
	two, _ := crc.Open(again)
	clear(one[:cap(one)])
	if string(two) != "123456789" || string(again) != "123456789\x26\x39\xf4\xcb" {
		t.Errorf("Open shares its memory: %q, %q", two, again)
	}
	clear(again)
	if string(two) != "123456789" {
		t.Errorf("Open keeps what it was given: %q", two)
	}
}

func FuzzAnyInput(f *testing.F) {
	f.Add(uint32(0), []byte(nil), []byte(nil), 0)
	f.Add(uint32(7), []byte("1234"), []byte("56789"), -4)
	f.Add(uint32(0xffffffff), []byte("123456789\x26\x39\xf4\xcb"), []byte{0}, math.MaxInt)
	f.Add(uint32(1), []byte{0, 0, 0}, bytes.Repeat([]byte{0xff}, 99), math.MinInt)
	f.Fuzz(func(t *testing.T, n uint32, a []byte, b []byte, long int) {
		crc.Join(n, crc.Sum(a), long)
		both := crc.Sum(append(slices.Clone(a), b...))
		if crc.More(crc.Sum(a), b) != both || crc.Join(crc.Sum(a), crc.Sum(b), len(b)) != both {
			t.Errorf("%q and %q do not add up", a, b)
		}
		if got := crc.More(n, a); got != slowMore(n, a) {
			t.Errorf("More(%08x, %q) = %08x", n, a, got)
		}
		if got, e := crc.Open(crc.Wrap(a)); e != api.OK || !bytes.Equal(got, a) {
			t.Errorf("Open(Wrap(%q)) = %q, %d", a, got, e)
		}
		got, e := crc.Open(a)
		if e == api.OK && !bytes.Equal(crc.Wrap(got), a) || e != api.OK && (e != api.ErrForm || len(got) != 0) {
			t.Errorf("Open(%q) = %q, %d", a, got, e)
		}
	})
}
