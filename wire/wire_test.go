package wire_test

import (
	"bytes"
	"encoding/binary"
	"fmt"
	"math"
	"math/rand"
	"slices"
	"strings"
	"testing"

	"scholium/wire"
)

const most = 1 << 40 // the greatest number

// writtenNumber writes a number by another way than the package does.
func writtenNumber(n int) []byte {
	return binary.AppendUvarint(nil, uint64(n))
}

func writtenTexts(list []string) []byte {
	var b []byte
	for _, s := range list {
		b = append(append(b, writtenNumber(len(s))...), s...)
	}
	return b
}

func writtenList(list []string) []byte {
	return append(writtenNumber(len(list)), writtenTexts(list)...)
}

// readNumber reads a number by another way than the package does: it is there just if writing it again gives the same bytes.
func readNumber(b []byte) (n int, rest []byte, ok bool) {
	u, size := binary.Uvarint(b)
	if size <= 0 || u > most || !bytes.Equal(writtenNumber(int(u)), b[:size]) {
		return 0, nil, false
	}
	return int(u), b[size:], true
}

func readText(b []byte) (s string, rest []byte, ok bool) {
	n, rest, ok := readNumber(b)
	if !ok || n > len(rest) {
		return "", nil, false
	}
	return string(rest[:n]), rest[n:], true
}

func readList(b []byte, atMost int) (list []string, rest []byte, ok bool) {
	n, rest, ok := readNumber(b)
	if !ok || n > atMost {
		return nil, nil, false
	}
	for len(list) < n {
		var s string
		if s, rest, ok = readText(rest); !ok {
			return nil, nil, false
		}
		list = append(list, s)
	}
	return list, rest, true
}

// numbers are those about each edge of a size, in order.
func numbers() []int {
	var l []int
	for n := range 300 {
		l = append(l, n)
	}
	for bit := 9; bit <= 40; bit++ {
		for _, n := range []int{1<<bit - 2, 1<<bit - 1, 1 << bit, 1<<bit + 1, 3 << (bit - 1), 1<<bit | 1<<(bit-7)} {
			if n <= most {
				l = append(l, n)
			}
		}
	}
	slices.Sort(l)
	return slices.Compact(l)
}

// noNumbers are such as are none.
func noNumbers() []int {
	l := []int{-1, -2, -127, -128, -129, math.MinInt, math.MinInt + 1, most + 1, most + 2, most + 128, math.MaxInt, math.MaxInt - 1, math.MinInt32, -most, -most - 1, math.MinInt + 5}
	for bit := 41; bit < 63; bit++ {
		l = append(l, 1<<bit-1, 1<<bit, 1<<bit+1, -1<<bit)
	}
	return l
}

// rows are all rows of at most so many of the bytes.
func rows(of []byte, most int) [][]byte {
	all := [][]byte{nil}
	last := all
	for range most {
		var next [][]byte
		for _, b := range last {
			for _, c := range of {
				next = append(next, append(slices.Clone(b), c))
			}
		}
		all = append(all, next...)
		last = next
	}
	return all
}

// someRows are those that the readers are tried on.
func someRows() [][]byte {
	var every []byte
	for c := range 256 {
		every = append(every, byte(c))
	}
	l := rows(every, 2)
	l = append(l, rows([]byte{0, 1, 2, 127, 128, 129, 255}, 5)...)
	l = append(l, rows([]byte{0, 1, 128}, 9)...)
	// Five bytes that go on, and what may stand behind them.
	for _, low := range []byte{128, 129, 255} {
		for c := range 256 {
			l = append(l, []byte{low, 128, 128, 128, 128, byte(c)}, []byte{128, 128, 128, 128, low, byte(c), 7}, []byte{128, 128, 128, 128, 128, low, byte(c)}, []byte{low, low, low, low, low, low, low, low, low, byte(c)})
		}
	}
	dice := rand.New(rand.NewSource(2))
	for range 20000 {
		b := make([]byte, dice.Intn(30))
		for i := range b {
			b[i] = byte(dice.Intn(5))
			if dice.Intn(12) == 0 {
				b[i] = byte(dice.Intn(256))
			}
		}
		l = append(l, b)
	}
	return l
}

func someTexts() []string {
	l := []string{"", "a", "ab", "\x00", "\xff", "\x80", "\xc3", "\u00e9", "\u4e16", "a\x00b", "\x02ab", "2ab"}
	for _, n := range []int{126, 127, 128, 129, 255, 256, 16383, 16384, 16385} {
		l = append(l, strings.Repeat("a", n), strings.Repeat("\xff", n))
	}
	for c := range 256 {
		l = append(l, string([]byte{byte(c)}))
	}
	return l
}

func someLists() [][]string {
	texts := someTexts()
	l := [][]string{nil, {}, {""}, {"", ""}, {"ab"}, {"a", "b"}, {"b", "a"}, {"a", "a"}, {"a", ""}, {"", "a"}, {"\x01a", "\x00"}, texts}
	for _, n := range []int{126, 127, 128, 129, 16383, 16384} {
		l = append(l, make([]string, n))
	}
	dice := rand.New(rand.NewSource(1))
	for n := range 200 {
		var list []string
		for range n {
			list = append(list, texts[dice.Intn(len(texts))])
		}
		l = append(l, list)
	}
	return l
}

// P2.1, Nums and Size.

func TestNumsOrdinary(t *testing.T) {
	for _, c := range []struct {
		list []int
		want []byte
	}{
		{nil, nil},
		{[]int{}, nil},
		{[]int{0}, []byte{0}},
		{[]int{1}, []byte{1}},
		{[]int{127}, []byte{127}},
		{[]int{128}, []byte{128, 1}},
		{[]int{129}, []byte{129, 1}},
		{[]int{255}, []byte{255, 1}},
		{[]int{256}, []byte{128, 2}},
		{[]int{300}, []byte{172, 2}},
		{[]int{16383}, []byte{255, 127}},
		{[]int{16384}, []byte{128, 128, 1}},
		{[]int{most - 1}, []byte{255, 255, 255, 255, 255, 31}},
		{[]int{most}, []byte{128, 128, 128, 128, 128, 32}},
		{[]int{0, 0}, []byte{0, 0}},
		{[]int{300, 1, 300}, []byte{172, 2, 1, 172, 2}},
		{[]int{2, 1, 0, 128}, []byte{2, 1, 0, 128, 1}},
	} {
		if got, ok := wire.Nums(c.list...); !ok || !bytes.Equal(got, c.want) {
			t.Errorf("Nums(%v) is %v, %v", c.list, got, ok)
		}
	}
}

func TestNumsAndSizeOfAll(t *testing.T) {
	var whole []byte
	for _, n := range numbers() {
		want := writtenNumber(n)
		whole = append(whole, want...)
		if got, ok := wire.Nums(n); !ok || !bytes.Equal(got, want) {
			t.Errorf("Nums(%d) is %v, %v", n, got, ok)
		}
		if got := wire.Size(n); got != len(want) {
			t.Errorf("Size(%d) is %d", n, got)
		}
	}
	if got, ok := wire.Nums(numbers()...); !ok || !bytes.Equal(got, whole) {
		t.Errorf("Nums of all is %d bytes, %v", len(got), ok)
	}
}

func TestNumsAndSizeOfNone(t *testing.T) {
	for _, n := range noNumbers() {
		if got := wire.Size(n); got != 0 {
			t.Errorf("Size(%d) is %d", n, got)
		}
		for _, list := range [][]int{{n}, {n, 1}, {1, n}, {1, n, 1}, {n, n}} {
			if got, ok := wire.Nums(list...); ok || len(got) != 0 {
				t.Errorf("Nums(%v) is %v, %v", list, got, ok)
			}
		}
	}
}

func TestSizeOrdinary(t *testing.T) {
	for n, want := range map[int]int{0: 1, 1: 1, 127: 1, 128: 2, 300: 2, 1<<14 - 1: 2, 1 << 14: 3, 1<<21 - 1: 3, 1 << 21: 4, 1<<28 - 1: 4, 1 << 28: 5, 1<<35 - 1: 5, 1 << 35: 6, most - 1: 6, most: 6, most + 1: 0, -1: 0} {
		if got := wire.Size(n); got != want {
			t.Errorf("Size(%d) is %d", n, got)
		}
	}
}

// P2.1, Texts and List.

func TestTextsAndListOrdinary(t *testing.T) {
	for _, c := range []struct {
		list []string
		want []byte // of the texts
	}{
		{nil, nil},
		{[]string{}, nil},
		{[]string{""}, []byte{0}},
		{[]string{"ab"}, []byte{2, 'a', 'b'}},
		{[]string{"", ""}, []byte{0, 0}},
		{[]string{"ab", "", "c"}, []byte{2, 'a', 'b', 0, 1, 'c'}},
		{[]string{"\xff\x00"}, []byte{2, 255, 0}},
		{[]string{"\u00e9"}, []byte{2, 0xc3, 0xa9}},
	} {
		if got := wire.Texts(c.list...); !bytes.Equal(got, c.want) {
			t.Errorf("Texts(%q) is %v", c.list, got)
		}
		if got := wire.List(c.list...); !bytes.Equal(got, append([]byte{byte(len(c.list))}, c.want...)) {
			t.Errorf("List(%q) is %v", c.list, got)
		}
	}
	long := strings.Repeat("a", 300)
	if got := wire.Texts(long); !bytes.Equal(got, append([]byte{172, 2}, long...)) {
		t.Errorf("Texts of 300 bytes begins with %v", got[:4])
	}
	if got := wire.List(make([]string, 300)...); !bytes.Equal(got, append([]byte{172, 2}, make([]byte, 300)...)) {
		t.Errorf("List of 300 texts begins with %v", got[:4])
	}
}

func TestTextsAndListOfAll(t *testing.T) {
	for _, list := range someLists() {
		if got := wire.Texts(list...); !bytes.Equal(got, writtenTexts(list)) {
			t.Errorf("Texts of %d texts is wrong", len(list))
		}
		if got := wire.List(list...); !bytes.Equal(got, writtenList(list)) {
			t.Errorf("List of %d texts is wrong", len(list))
		}
	}
}

// P2.2, Num.

func TestNumOrdinary(t *testing.T) {
	for _, c := range []struct {
		b    []byte
		want int
		rest []byte
	}{
		{[]byte{0}, 0, nil},
		{[]byte{1}, 1, nil},
		{[]byte{127}, 127, nil},
		{[]byte{0, 0}, 0, []byte{0}},
		{[]byte{172, 2}, 300, nil},
		{[]byte{172, 2, 255, 128}, 300, []byte{255, 128}},
		{[]byte{128, 1, 7}, 128, []byte{7}},
		{[]byte{255, 255, 255, 255, 255, 31}, most - 1, nil},
		{[]byte{128, 128, 128, 128, 128, 32, 0}, most, []byte{0}},
	} {
		if n, rest, ok := wire.Num(c.b); n != c.want || !bytes.Equal(rest, c.rest) || !ok {
			t.Errorf("Num(%v) is %d, %v, %v", c.b, n, rest, ok)
		}
	}
}

func TestNumOfNone(t *testing.T) {
	for _, b := range [][]byte{
		nil,
		{},
		{128},
		{255},
		{255, 255, 255},
		{128, 128, 128, 128, 128},
		// Not as short as can be.
		{128, 0},
		{129, 0},
		{255, 0, 1},
		{128, 128, 0},
		{172, 130, 0},
		{128, 128, 128, 128, 128, 0},
		{128, 128, 128, 128, 128, 160, 0},
		{129, 128, 128, 128, 128, 128, 128, 0},
		// Above 2^40.
		{129, 128, 128, 128, 128, 32},
		{128, 129, 128, 128, 128, 32},
		{128, 128, 128, 128, 129, 32},
		{128, 128, 128, 128, 128, 33},
		{255, 255, 255, 255, 255, 32},
		{128, 128, 128, 128, 128, 64},
		{128, 128, 128, 128, 128, 127},
		{128, 128, 128, 128, 128, 128, 1},
		{255, 255, 255, 255, 255, 255, 255, 255, 127},
		{128, 128, 128, 128, 128, 128, 128, 128, 128, 1},
		{255, 255, 255, 255, 255, 255, 255, 255, 255, 1},
		// Bits that go beyond 64: what is left of them alone would be a number.
		{133, 128, 128, 128, 128, 128, 128, 128, 128, 2},
		{133, 128, 128, 128, 128, 128, 128, 128, 128, 128, 1},
		{255, 255, 255, 255, 255, 255, 255, 255, 255, 255, 255, 1},
	} {
		if n, rest, ok := wire.Num(b); n != 0 || len(rest) != 0 || ok {
			t.Errorf("Num(%v) is %d, %v, %v", b, n, rest, ok)
		}
	}
}

func TestNumOfAll(t *testing.T) {
	for _, b := range someRows() {
		n, rest, ok := wire.Num(b)
		wantN, wantRest, want := readNumber(b)
		if n != wantN || !bytes.Equal(rest, wantRest) || ok != want {
			t.Fatalf("Num(%v) is %d, %v, %v", b, n, rest, ok)
		}
	}
}

// P2.2, Text.

func TestTextOrdinary(t *testing.T) {
	for _, c := range []struct{ b, want, rest string }{
		{"\x02ab", "ab", ""},
		{"\x02abc", "ab", "c"},
		{"\x00", "", ""},
		{"\x00\x00", "", "\x00"},
		{"\x01\xff\xff", "\xff", "\xff"},
		{"\x01\x80", "\x80", ""},
		{"\xac\x02" + strings.Repeat("a", 301), strings.Repeat("a", 300), "a"},
	} {
		if s, rest, ok := wire.Text([]byte(c.b)); s != c.want || string(rest) != c.rest || !ok {
			t.Errorf("Text(%q) is %q, %q, %v", c.b, s, rest, ok)
		}
	}
	for _, b := range []string{"", "\x01", "\x02a", "\x80", "\x80\x00", "\x82\x00ab", "\x80\x01" + strings.Repeat("a", 127), "\x80\x80\x80\x80\x80\x20a", "\x81\x80\x80\x80\x80\x20a", "\xff\xff\xff\xff\xff\xff\xff\xff\x7fa", "\xff\xff\xff\xff\xff\xff\xff\xff\xff\x01a"} {
		if s, rest, ok := wire.Text([]byte(b)); s != "" || len(rest) != 0 || ok {
			t.Errorf("Text(%q) is %q, %q, %v", b, s, rest, ok)
		}
	}
}

func TestTextOfAll(t *testing.T) {
	for _, b := range someRows() {
		s, rest, ok := wire.Text(b)
		wantS, wantRest, want := readText(b)
		if s != wantS || !bytes.Equal(rest, wantRest) || ok != want {
			t.Fatalf("Text(%v) is %q, %v, %v", b, s, rest, ok)
		}
	}
}

// P2.2, Take.

func TestTakeOrdinary(t *testing.T) {
	for _, c := range []struct {
		b    string
		most int
		want []string
		rest string
	}{
		{"\x00", 0, nil, ""},
		{"\x00", 5, nil, ""},
		{"\x00ab", 0, nil, "ab"},
		{"\x01\x02ab", 1, []string{"ab"}, ""},
		{"\x01\x02abc", 2, []string{"ab"}, "c"},
		{"\x02\x01a\x01b\x01c", 2, []string{"a", "b"}, "\x01c"},
		{"\x02\x01a\x01b\x01c", math.MaxInt, []string{"a", "b"}, "\x01c"},
		{"\x03\x00\x00\x00\x00", 3, []string{"", "", ""}, "\x00"},
		{"\xac\x02" + strings.Repeat("\x01a", 300) + "\x01", 300, slices.Repeat([]string{"a"}, 300), "\x01"},
	} {
		list, rest, ok := wire.Take([]byte(c.b), c.most)
		if !slices.Equal(list, c.want) || string(rest) != c.rest || !ok {
			t.Errorf("Take(%q, %d) is %q, %q, %v", c.b, c.most, list, rest, ok)
		}
	}
}

func TestTakeOfNone(t *testing.T) {
	for _, c := range []struct {
		b    string
		most int
	}{
		{"", 0},
		{"", 5},
		{"", math.MaxInt},
		// Too many texts.
		{"\x00", -1},
		{"\x00", math.MinInt},
		{"\x01\x00", 0},
		{"\x01\x00", -1},
		{"\x02\x01a\x01b", 1},
		{"\xac\x02" + strings.Repeat("\x01a", 300), 299},
		// Too few texts.
		{"\x01", 1},
		{"\x02\x01a", 2},
		{"\x02\x01a\x01", 2},
		{"\x02\x00", 9},
		{"\x80\x80\x80\x80\x80\x20\x00\x00", math.MaxInt},
		{"\x80\x80\x80\x80\x80\x20\x00\x00", most},
		// Texts, or a number of them, that are none.
		{"\x80", 9},
		{"\x80\x00", 9},
		{"\x81\x00\x01a", 9},
		{"\x01\x81\x00a", 9},
		{"\x02\x01a\x80\x00", 9},
		{"\x02\x81\x00a\x01b", 9},
		{"\x81\x80\x80\x80\x80\x20\x00", math.MaxInt},
		{"\xff\xff\xff\xff\xff\xff\xff\xff\xff\x01\x00", math.MaxInt},
	} {
		if list, rest, ok := wire.Take([]byte(c.b), c.most); len(list) != 0 || len(rest) != 0 || ok {
			t.Errorf("Take(%q, %d) is %q, %q, %v", c.b, c.most, list, rest, ok)
		}
	}
}

func TestTakeOfAll(t *testing.T) {
	for _, b := range someRows() {
		for _, atMost := range []int{-1, 0, 1, 2, 3, 127, 128, 1 << 20} {
			list, rest, ok := wire.Take(b, atMost)
			wantList, wantRest, want := readList(b, atMost)
			if !slices.Equal(list, wantList) || !bytes.Equal(rest, wantRest) || ok != want {
				t.Fatalf("Take(%v, %d) is %q, %v, %v", b, atMost, list, rest, ok)
			}
		}
	}
}

// P2.3: what was written is read.

func TestWrittenIsRead(t *testing.T) {
	for _, rest := range [][]byte{nil, {0}, {1, 2, 3}, {128}, {255, 255}} {
		for _, n := range numbers() {
			b, _ := wire.Nums(n)
			if got, left, ok := wire.Num(append(b, rest...)); got != n || !bytes.Equal(left, rest) || !ok {
				t.Errorf("%d is read as %d, %v, %v", n, got, left, ok)
			}
		}
		for _, s := range someTexts() {
			b := wire.Texts(s)
			if got, left, ok := wire.Text(append(b, rest...)); got != s || !bytes.Equal(left, rest) || !ok {
				t.Errorf("a text of %d bytes is read as one of %d, %v, %v", len(s), len(got), left, ok)
			}
		}
		for _, list := range someLists() {
			b := wire.List(list...)
			if got, left, ok := wire.Take(append(b, rest...), len(list)); !slices.Equal(got, list) || !bytes.Equal(left, rest) || !ok {
				t.Errorf("%d texts are read as %d, %v, %v", len(list), len(got), left, ok)
			}
		}
	}
}

func TestManyAreReadOneByOne(t *testing.T) {
	b, _ := wire.Nums(numbers()...)
	for _, n := range numbers() {
		got, rest, ok := wire.Num(b)
		if got != n || !ok {
			t.Fatalf("%d is read as %d, %v", n, got, ok)
		}
		b = rest
	}
	if len(b) != 0 {
		t.Errorf("%v is left of the numbers", b)
	}
	b = wire.Texts(someTexts()...)
	for _, s := range someTexts() {
		got, rest, ok := wire.Text(b)
		if got != s || !ok {
			t.Fatalf("%q is read as %q, %v", s, got, ok)
		}
		b = rest
	}
	if len(b) != 0 {
		t.Errorf("%v is left of the texts", b)
	}
}

// P2.3: what is read is written so.

func TestReadIsWritten(t *testing.T) {
	for _, b := range someRows() {
		if n, rest, ok := wire.Num(b); ok {
			if w, ok := wire.Nums(n); !ok || !bytes.Equal(append(w, rest...), b) {
				t.Fatalf("%v is read as %d, which is written %v", b, n, w)
			}
		}
		if s, rest, ok := wire.Text(b); ok && !bytes.Equal(append(wire.Texts(s), rest...), b) {
			t.Fatalf("%v is read as %q, which is written %v", b, s, wire.Texts(s))
		}
		if l, rest, ok := wire.Take(b, 1<<20); ok && !bytes.Equal(append(wire.List(l...), rest...), b) {
			t.Fatalf("%v is read as %q, which is written %v", b, l, wire.List(l...))
		}
	}
}

// P2.3: what is handed in isn't changed.

// inside answers bytes behind whose length others stand in their memory, and the whole of that memory.
func inside(b []byte) ([]byte, []byte) {
	whole := append(slices.Clone(b), 1, 0, 1, 'a', 2)
	return whole[:len(b)], whole
}

func TestArgumentsStay(t *testing.T) {
	for what, call := range map[string]func(b []byte){
		"Num":  func(b []byte) { wire.Num(b) },
		"Text": func(b []byte) { wire.Text(b) },
		"Take": func(b []byte) { wire.Take(b, 9) },
	} {
		for _, b := range []string{"", "\x00", "\x00\x00", "\x02ab", "\x02abc", "\x01\x02ab", "\x02\x01a\x01bcd", "\xac\x02", "\x80", "\x80\x00"} {
			handed, whole := inside([]byte(b))
			before := slices.Clone(whole)
			call(handed)
			if !bytes.Equal(whole, before) {
				t.Errorf("%s has changed %v to %v", what, before, whole)
			}
		}
	}
	nums := []int{3, 300, 0, -1, 7, 8}
	wire.Nums(nums[:3]...)
	wire.Nums(nums[:4]...)
	if !slices.Equal(nums, []int{3, 300, 0, -1, 7, 8}) {
		t.Errorf("Nums has changed its list to %v", nums)
	}
	texts := []string{"b", "", "a", "behind"}
	wire.Texts(texts[:3]...)
	wire.List(texts[:3]...)
	if !slices.Equal(texts, []string{"b", "", "a", "behind"}) {
		t.Errorf("Texts or List has changed its list to %q", texts)
	}
}

func TestBehindTheLengthIsNotRead(t *testing.T) {
	whole := []byte{172, 2, 1, 'a', 1, 'b'}
	if n, rest, ok := wire.Num(whole[:1]); n != 0 || len(rest) != 0 || ok {
		t.Errorf("Num reads %d behind the length", n)
	}
	if s, rest, ok := wire.Text(whole[2:3]); s != "" || len(rest) != 0 || ok {
		t.Errorf("Text reads %q behind the length", s)
	}
	if l, rest, ok := wire.Take(whole[1:4], 9); len(l) != 0 || len(rest) != 0 || ok {
		t.Errorf("Take reads %q behind the length", l)
	}
}

// P2.3: what is answered is new memory.

// spoil writes over bytes, and over what there is behind their length.
func spoil(b []byte) {
	for i := range b[:cap(b)] {
		b[:cap(b)][i] = 99
	}
}

func TestRestIsNew(t *testing.T) {
	for what, call := range map[string]func(b []byte) []byte{
		"Num":  func(b []byte) []byte { _, rest, _ := wire.Num(b); return rest },
		"Text": func(b []byte) []byte { _, rest, _ := wire.Text(b); return rest },
		"Take": func(b []byte) []byte { _, rest, _ := wire.Take(b, 9); return rest },
	} {
		for _, b := range []string{"\x00", "\x00\x00", "\x02ab", "\x02abc", "\x01\x02ab", "\x02\x01a\x01bcd", "\x80"} {
			handed, whole := inside([]byte(b))
			before := slices.Clone(whole)
			want := slices.Clone(call(handed))
			spoil(call(handed))
			if !bytes.Equal(whole, before) {
				t.Errorf("%s(%q) answers memory of what is handed in", what, b)
			}
			rest := call(handed)
			spoil(whole)
			if !bytes.Equal(rest, want) {
				t.Errorf("%s(%q) hangs on what was handed in", what, b)
			}
		}
	}
}

func TestTextsAreNew(t *testing.T) {
	b := []byte("\x02abc")
	s, _, _ := wire.Text(b)
	spoil(b)
	if s != "ab" {
		t.Errorf("the text is %q behind a change of the bytes", s)
	}
	b = []byte("\x02\x01a\x02bcd")
	l, _, _ := wire.Take(b, 2)
	spoil(b)
	if !slices.Equal(l, []string{"a", "bc"}) {
		t.Errorf("the list is %q behind a change of the bytes", l)
	}
	b = []byte("\x02\x01a\x02bcd")
	first, _, _ := wire.Take(b, 2)
	second, _, _ := wire.Take(b, 2)
	for i := range first[:cap(first)] {
		first[:cap(first)][i] = "spoilt"
	}
	if !slices.Equal(second, []string{"a", "bc"}) {
		t.Errorf("two answers of Take share memory: %q", second)
	}
}

func TestWrittenIsNew(t *testing.T) {
	for what, call := range map[string]func() []byte{
		"Nums":         func() []byte { b, _ := wire.Nums(1, 300); return b },
		"Nums of none": func() []byte { b, _ := wire.Nums(-1); return b },
		"Texts":        func() []byte { return wire.Texts("ab", "") },
		"List":         func() []byte { return wire.List("ab", "") },
		"empty List":   func() []byte { return wire.List() },
	} {
		first, second := call(), call()
		want := slices.Clone(second)
		spoil(first)
		if !bytes.Equal(second, want) || !bytes.Equal(call(), want) {
			t.Errorf("two answers of %s share memory", what)
		}
	}
}

// P1: every call ends and none panics, at all arguments.

func TestNonePanics(t *testing.T) {
	for _, n := range append(numbers(), noNumbers()...) {
		wire.Nums(n, n)
		wire.Size(n)
		for _, b := range [][]byte{nil, {0}, {1}, {2, 0, 0}, {255, 255, 255, 255, 255, 31}} {
			wire.Take(b, n)
		}
	}
	huge := 1 << 21
	for _, b := range [][]byte{bytes.Repeat([]byte{0}, huge), bytes.Repeat([]byte{1}, huge), bytes.Repeat([]byte{128}, huge), bytes.Repeat([]byte{255}, huge), append([]byte{128, 128, 128, 128, 128, 32}, make([]byte, huge)...)} {
		wire.Num(b)
		wire.Text(b)
		wire.Take(b, math.MaxInt)
		wire.Texts(string(b), string(b))
		wire.List(string(b))
	}
	wire.List(make([]string, huge)...)
	wire.Texts(make([]string, huge)...)
	wire.Nums(make([]int, huge)...)
	for _, b := range someRows() {
		wire.Take(b, math.MaxInt)
	}
}

// A list of many texts is taken in time that grows with its bytes alone.
func TestTakeOfMany(t *testing.T) {
	list := slices.Repeat([]string{"a"}, 1<<20)
	if got, rest, ok := wire.Take(wire.List(list...), len(list)); !slices.Equal(got, list) || len(rest) != 0 || !ok {
		t.Errorf("%d texts are read as %d, %v", len(list), len(got), ok)
	}
}

func ExampleNums() {
	fmt.Println(wire.Nums(300))
	// Output: [172 2] true
}

func ExampleTexts() {
	fmt.Println(wire.Texts("ab"))
	// Output: [2 97 98]
}

func ExampleTake() {
	list, rest, ok := wire.Take([]byte{2, 1, 'a', 1, 'b', 7}, 2)
	fmt.Println(list, rest, ok)
	// Output: [a b] [7] true
}
