package name_test

import (
	"fmt"
	"math/rand"
	"regexp"
	"slices"
	"strconv"
	"strings"
	"testing"

	"scholium/name"
)

var form = regexp.MustCompile(`\A[a-z_][a-z0-9_]*(\.[a-z_][a-z0-9_]*)*\z`)

// isName tells a name by another way than the package does.
func isName(s string) bool {
	return len(s) <= 40 && form.MatchString(s)
}

// texts are all texts of at most so many of the pieces.
func texts(pieces []string, most int) []string {
	all := []string{""}
	last := all
	for range most {
		var next []string
		for _, s := range last {
			for _, p := range pieces {
				next = append(next, s+p)
			}
		}
		all = append(all, next...)
		last = next
	}
	return all
}

func someTexts() []string {
	l := texts([]string{"a", "z", "0", "9", "_", ".", "A", " "}, 4)
	for _, n := range []int{1, 2, 19, 38, 39, 40, 41, 42, 80, 1 << 16} {
		long := strings.Repeat("a", n)
		l = append(l, long, long+".", "."+long, long+".b", "b."+long, "_"+long, "1"+long, strings.Repeat("a.", n)+"b")
	}
	for c := range 256 {
		s := string([]byte{byte(c)})
		l = append(l, s, "a"+s, s+"a", "a"+s+"b", "a."+s, strings.Repeat("a", 39)+s)
	}
	// Runes whose lowest byte, or whose look, is that of a plain one.
	return append(l, "\u0161", "\u0430", "\uff41", "a\u0660", "a\u02d9b", "a\u2024b", "a\xc3", "\xffa", "a\n", "\na", "a\x00")
}

// P1.1, Right.

func TestRightOrdinary(t *testing.T) {
	for _, s := range []string{"nat", "nat.add", "a", "z", "_", "__", "_9", "a09z", "a.b.c", "a_._.b0"} {
		if !name.Right(s) {
			t.Errorf("Right(%q) is false", s)
		}
	}
	for _, s := range []string{"", ".", "..", ".a", "a.", "a..b", "0", "9a", "a.0", "a.9b", "Nat", "nat.Add", "a-b", "a b", " a", "a ", "a/b", "a:b", "`", "{", "a\x00", "a\n", "\u00e9", "a\x80", "a\xff"} {
		if name.Right(s) {
			t.Errorf("Right(%q) is true", s)
		}
	}
}

func TestRightLength(t *testing.T) {
	for n := range 60 {
		if got := name.Right(strings.Repeat("a", n)); got != (n >= 1 && n <= 40) {
			t.Errorf("Right of %d bytes is %v", n, got)
		}
	}
	if s := strings.Repeat("a.", 19) + "bc"; !name.Right(s) {
		t.Errorf("Right(%q), of 40 bytes, is false", s)
	}
	if s := strings.Repeat("a.", 20) + "b"; name.Right(s) {
		t.Errorf("Right(%q), of 41 bytes, is true", s)
	}
}

func TestRightIsTheForm(t *testing.T) {
	for _, s := range someTexts() {
		if got := name.Right(s); got != isName(s) {
			t.Errorf("Right(%q) is %v", s, got)
		}
	}
}

// P1.1, Parts.

func TestPartsOrdinary(t *testing.T) {
	for s, want := range map[string][]string{
		"nat":       {"nat"},
		"nat.add":   {"nat", "add"},
		"a.b1._c.d": {"a", "b1", "_c", "d"},
		"a.a":       {"a", "a"},
	} {
		if got := name.Parts(s); !slices.Equal(got, want) {
			t.Errorf("Parts(%q) is %q", s, got)
		}
	}
}

func TestPartsOfAll(t *testing.T) {
	for _, s := range someTexts() {
		parts := name.Parts(s)
		if !isName(s) {
			if len(parts) != 0 {
				t.Errorf("Parts(%q) is %q", s, parts)
			}
			continue
		}
		if strings.Join(parts, ".") != s {
			t.Errorf("Parts(%q) is %q", s, parts)
		}
		for _, p := range parts {
			if !isName(p) || strings.Contains(p, ".") {
				t.Errorf("Parts(%q) has the part %q", s, p)
			}
		}
	}
}

// P1.1, Join.

func TestJoin(t *testing.T) {
	a38, a39, a40 := strings.Repeat("a", 38), strings.Repeat("a", 39), strings.Repeat("a", 40)
	for _, c := range []struct {
		parts []string
		want  string
	}{
		{[]string{"nat"}, "nat"},
		{[]string{"nat", "add"}, "nat.add"},
		{[]string{"a.b", "c", "d.e"}, "a.b.c.d.e"},
		{[]string{"b", "a", "b"}, "b.a.b"},
		{[]string{a40}, a40},
		{[]string{a38, "b"}, a38 + ".b"},
		{[]string{"b", a38}, "b." + a38},
		{strings.Split(strings.Repeat("a ", 19)+"bc", " "), strings.Repeat("a.", 19) + "bc"},
		// From here on there is none.
		{nil, ""},
		{[]string{}, ""},
		{[]string{""}, ""},
		{[]string{"", ""}, ""},
		{[]string{"a", ""}, ""},
		{[]string{"", "a"}, ""},
		{[]string{"a", "", "b"}, ""},
		{[]string{"a", "."}, ""},
		{[]string{"a.", "b"}, ""},
		{[]string{"a", ".b"}, ""},
		{[]string{"a", "1"}, ""},
		{[]string{"1", "a"}, ""},
		{[]string{"a", "B"}, ""},
		{[]string{"a", "b\xff"}, ""},
		{[]string{a40 + "a"}, ""},
		{[]string{a39, "b"}, ""},
		{[]string{"b", a39}, ""},
		{[]string{a40, "b"}, ""},
		{[]string{a40, a40, a40}, ""},
		{strings.Split(strings.Repeat("a ", 20)+"b", " "), ""},
		{slices.Repeat([]string{"a"}, 100000), ""},
		{slices.Repeat([]string{strings.Repeat("a", 1<<20)}, 1<<12), ""},
	} {
		if got, ok := name.Join(c.parts...); got != c.want || ok != (c.want != "") {
			t.Errorf("Join of %d parts is %q, %v, not %q", len(c.parts), got, ok, c.want)
		}
	}
}

func TestJoinOfAll(t *testing.T) {
	l := append(texts([]string{"a", "0", "_", ".", "-"}, 2), strings.Repeat("a", 36), strings.Repeat("b", 40))
	for _, a := range l {
		for _, b := range l {
			for _, c := range []string{"", "x", "y.z", "1"} {
				want := a + "." + b + "." + c
				ok := isName(a) && isName(b) && isName(c) && len(want) <= 40
				if !ok {
					want = ""
				}
				if got, right := name.Join(a, b, c); got != want || right != ok {
					t.Errorf("Join(%q, %q, %q) is %q, %v", a, b, c, got, right)
				}
			}
		}
	}
}

func TestPartsAreJoined(t *testing.T) {
	for _, s := range someTexts() {
		if !isName(s) {
			continue
		}
		if got, ok := name.Join(name.Parts(s)...); got != s || !ok {
			t.Errorf("Join of the parts of %q is %q, %v", s, got, ok)
		}
	}
}

// P1.2.

func TestParentAndLast(t *testing.T) {
	for _, c := range []struct{ s, parent, last string }{
		{"a", "", "a"},
		{"nat.add", "nat", "add"},
		{"a.b1.c", "a.b1", "c"},
		{"a.a.a", "a.a", "a"},
		{strings.Repeat("a", 40), "", strings.Repeat("a", 40)},
		{"a." + strings.Repeat("b", 38), "a", strings.Repeat("b", 38)},
		{strings.Repeat("b", 38) + ".a", strings.Repeat("b", 38), "a"},
		{"", "", ""},
		{"A", "", ""},
		{"a.", "", ""},
		{".a", "", ""},
		{"a..b", "", ""},
		{"a.b.", "", ""},
		{"a.1", "", ""},
		{"1.a", "", ""},
		{"a." + strings.Repeat("b", 39), "", ""},
	} {
		if parent, last := name.Parent(c.s), name.Last(c.s); parent != c.parent || last != c.last {
			t.Errorf("%q: the parent %q, the last part %q", c.s, parent, last)
		}
	}
}

func TestParentAndLastOfAll(t *testing.T) {
	for _, s := range someTexts() {
		parent, last := name.Parent(s), name.Last(s)
		parts := name.Parts(s)
		if len(parts) == 0 {
			if parent != "" || last != "" {
				t.Errorf("%q is none: the parent %q, the last part %q", s, parent, last)
			}
			continue
		}
		if last != parts[len(parts)-1] || parent != strings.Join(parts[:len(parts)-1], ".") {
			t.Errorf("%q: the parent %q, the last part %q", s, parent, last)
		}
	}
}

func TestUnder(t *testing.T) {
	a40 := strings.Repeat("a", 40)
	for _, c := range []struct {
		s, top string
		want   bool
	}{
		{"a", "a", true},
		{"a.b", "a", true},
		{"a.b.c", "a", true},
		{"a.b.c", "a.b", true},
		{"a.b.c", "a.b.c", true},
		{a40, a40, true},
		{"a", "a.b", false},
		{"ab", "a", false},
		{"a_b", "a", false},
		{"a.bc", "a.b", false},
		{"a.b", "b", false},
		{"b.a", "a", false},
		{"a.b.c", "b.c", false},
		{"", "", false},
		{"a", "", false},
		{"", "a", false},
		{"a.", "a", false},
		{"a.", "a.", false},
		{"a.1", "a", false},
		{"a..b", "a", false},
		{"a.b", "a.", false},
		{".a", "", false},
		{"1", "1", false},
		{"1.a", "1", false},
		{"A", "A", false},
		{a40 + "a", a40 + "a", false},
		{a40 + ".a", a40, false},
	} {
		if got := name.Under(c.s, c.top); got != c.want {
			t.Errorf("Under(%q, %q) is %v", c.s, c.top, got)
		}
	}
}

func TestUnderOfAll(t *testing.T) {
	l := append(texts([]string{"a", "b", "0", "."}, 4), "", "a\xff", strings.Repeat("a", 41))
	for _, s := range l {
		for _, top := range l {
			want := false
			for up := s; up != "" && isName(s); up = name.Parent(up) {
				want = want || up == top
			}
			if got := name.Under(s, top); got != want {
				t.Errorf("Under(%q, %q) is %v", s, top, got)
			}
		}
	}
}

// P1.3, Fresh.

// numbers are the names of a beginning, _ and the numbers from 1 to most.
func numbers(beginning string, most int) []string {
	var l []string
	for n := 1; n <= most; n++ {
		l = append(l, beginning+"_"+strconv.Itoa(n))
	}
	return l
}

func a(n int) string { return strings.Repeat("a", n) }

func TestFresh(t *testing.T) {
	for _, c := range []struct {
		s     string
		taken []string
		want  string
	}{
		{"x", nil, "x"},
		{"x", []string{}, "x"},
		{"x", []string{"y", "x.x", "x_", "X", "", "x_1"}, "x"},
		{"x", []string{"x"}, "x_1"},
		{"x", []string{"x", "x_1"}, "x_2"},
		{"x", []string{"x_1", "x", "x"}, "x_2"},
		{"x", []string{"x_2", "x_1", "x_4", "x"}, "x_3"},
		{"x", []string{"x", "x_0", "x_01", "x_2", "x1"}, "x_1"},
		{"x", append(numbers("x", 9), "x"), "x_10"},
		{"x", append(numbers("x", 99), "x"), "x_100"},
		{"x_1", []string{"x_1"}, "x_1_1"},
		{"x_1", []string{"x_1", "x_1_1"}, "x_1_2"},
		{"x_", []string{"x_"}, "x__1"},
		{"nat.add", []string{"nat.add", "nat"}, "nat.add_1"},
		{"x", []string{"not a name", "\xff", "x", strings.Repeat("x", 1<<16)}, "x_1"},
		// At the end of the room.
		{a(37), []string{a(37)}, a(37) + "_1"},
		{a(38), []string{a(38)}, a(38) + "_1"},
		{a(39), []string{a(39)}, a(38) + "_1"},
		{a(40), []string{a(40)}, a(38) + "_1"},
		{a(38), append(numbers(a(38), 9), a(38)), a(37) + "_10"},
		{a(37), append(numbers(a(37), 9), a(37)), a(37) + "_10"},
		{a(40), append(append(numbers(a(38), 9), numbers(a(37), 99)...), a(40)), a(36) + "_100"},
		{a(40), append(numbers(a(38), 9), a(40), a(37)+"_10", a(37)+"_12"), a(37) + "_11"},
		// A dot that comes to stand at the end goes, too.
		{a(37) + ".bc", []string{a(37) + ".bc"}, a(37) + "_1"},
		{a(37) + ".b", []string{a(37) + ".b"}, a(37) + "_1"},
		{a(36) + ".b", []string{a(36) + ".b"}, a(36) + ".b_1"},
		{a(36) + ".bcd", []string{a(36) + ".bcd"}, a(36) + ".b_1"},
		{a(36) + ".bcd", append(numbers(a(36)+".b", 9), a(36)+".bcd"), a(36) + "_10"},
		{a(38) + ".b", []string{a(38) + ".b"}, a(38) + "_1"},
		{strings.Repeat("a.", 19) + "bc", []string{strings.Repeat("a.", 19) + "bc"}, strings.Repeat("a.", 18) + "a_1"},
		// Of no name.
		{"", nil, ""},
		{"", []string{""}, ""},
		{"a.", []string{"a."}, ""},
		{"1", []string{"1"}, ""},
		{"A", nil, ""},
		{a(41), []string{a(41)}, ""},
		{a(41), nil, ""},
	} {
		if got := name.Fresh(c.s, c.taken...); got != c.want {
			t.Errorf("Fresh(%q) with %d taken is %q, not %q", c.s, len(c.taken), got, c.want)
		}
	}
}

func TestFreshAmongMany(t *testing.T) {
	taken := append(numbers("x", 200000), "x")
	if got := name.Fresh("x", taken...); got != "x_200001" {
		t.Errorf("Fresh is %q", got)
	}
}

// TestFreshIsTheFirst takes each answer in its turn: no two are one, and each is a name of at most 40 bytes.
func TestFreshIsTheFirst(t *testing.T) {
	for _, s := range []string{"x", "a.b", a(36) + ".bcd", a(40), a(35) + ".b.cd", strings.Repeat("_.", 19) + "_1"} {
		var taken []string
		for n := range 1200 {
			got := name.Fresh(s, taken...)
			end := "_" + strconv.Itoa(n)
			if n == 0 {
				end = ""
			}
			beginning, cut := strings.CutSuffix(got, end)
			if !isName(got) || slices.Contains(taken, got) || !cut || !strings.HasPrefix(s, beginning) {
				t.Fatalf("Fresh(%q) is %q behind %d others", s, got, n)
			}
			if left := strings.TrimRight(s[:min(len(s), 40-len(end))], "."); beginning != left {
				t.Fatalf("Fresh(%q) is %q: more than there must be is left out", s, got)
			}
			taken = append(taken, got)
		}
	}
}

// P1.3, Sort.

func TestSort(t *testing.T) {
	for _, c := range []struct{ l, want []string }{
		{nil, nil},
		{[]string{}, nil},
		{[]string{""}, []string{""}},
		{[]string{"a"}, []string{"a"}},
		{[]string{"b", "a"}, []string{"a", "b"}},
		{[]string{"a", "a", "a"}, []string{"a"}},
		{[]string{"b", "a", "b", "a"}, []string{"a", "b"}},
		{[]string{"nat.add", "nat", "nat_1", "nat1", "nata"}, []string{"nat", "nat.add", "nat1", "nat_1", "nata"}},
		{[]string{"a_2", "a_10", "a_1"}, []string{"a_1", "a_10", "a_2"}},
		{[]string{"\xff", "\u00e9", "a", "A", "", "\x00", "z"}, []string{"", "\x00", "A", "a", "z", "\u00e9", "\xff"}},
	} {
		if got := name.Sort(c.l); !slices.Equal(got, c.want) {
			t.Errorf("Sort(%q) is %q", c.l, got)
		}
	}
}

func TestSortOfMany(t *testing.T) {
	dice := rand.New(rand.NewSource(1))
	all := someTexts()
	for n := range 300 {
		l := make([]string, n)
		for i := range l {
			l[i] = all[dice.Intn(len(all))]
		}
		got := name.Sort(l)
		for i := 1; i < len(got); i++ {
			if got[i-1] >= got[i] {
				t.Fatalf("Sort has %q ahead of %q", got[i-1], got[i])
			}
		}
		for _, s := range l {
			if _, ok := slices.BinarySearch(got, s); !ok {
				t.Fatalf("Sort has lost %q", s)
			}
		}
		for _, s := range got {
			if !slices.Contains(l, s) {
				t.Fatalf("Sort has made up %q", s)
			}
		}
	}
}

// P1.4.

// inside answers a list of which others stand behind its length in its memory, and the whole of that memory.
func inside(l ...string) ([]string, []string) {
	whole := append(slices.Clone(l), "behind", "a", "behind")
	return whole[:len(l)], whole
}

func TestArgumentsStay(t *testing.T) {
	for what, call := range map[string]func(l []string){
		"Join":  func(l []string) { name.Join(l...) },
		"Fresh": func(l []string) { name.Fresh("b", l...) },
		"Sort":  func(l []string) { name.Sort(l) },
	} {
		for _, l := range [][]string{{}, {"b"}, {"b", "a"}, {"c", "b", "a", "b", "b_1"}, {"", "b", "B", ""}} {
			handed, whole := inside(l...)
			before := slices.Clone(whole)
			call(handed)
			if !slices.Equal(whole, before) {
				t.Errorf("%s has changed %q to %q", what, before, whole)
			}
		}
	}
}

// spoil writes over a list, and over what there is behind its length.
func spoil(l []string) {
	for i := range l[:cap(l)] {
		l[:cap(l)][i] = "spoilt"
	}
}

func TestAnswersAreNew(t *testing.T) {
	for _, l := range [][]string{{}, {"a"}, {"a", "b"}, {"b", "a", "b", "a"}} {
		handed, whole := inside(l...)
		before := slices.Clone(whole)
		want := slices.Clone(name.Sort(handed))
		spoil(name.Sort(handed))
		if !slices.Equal(whole, before) {
			t.Errorf("Sort(%q) answers memory of the list", l)
		}
		if got := name.Sort(handed); !slices.Equal(got, want) {
			t.Errorf("Sort(%q) answers %q the second time", l, got)
		}
	}
	spoil(name.Parts("a.b.c"))
	if got := name.Parts("a.b.c"); !slices.Equal(got, []string{"a", "b", "c"}) {
		t.Errorf("Parts answers %q the second time", got)
	}
	first, second := name.Parts("a.b"), name.Parts("a.b")
	spoil(first)
	if !slices.Equal(second, []string{"a", "b"}) {
		t.Error("two answers of Parts share memory")
	}
}

func TestNothingIsKept(t *testing.T) {
	taken := []string{"x", "x_1"}
	joined, _ := name.Join(taken...)
	fresh := name.Fresh("x", taken...)
	sorted := name.Sort(taken)
	spoil(taken)
	if joined != "x.x_1" || fresh != "x_2" || !slices.Equal(sorted, []string{"x", "x_1"}) {
		t.Errorf("what was answered hangs on the list: %q, %q, %q", joined, fresh, sorted)
	}
	if got := name.Fresh("x"); got != "x" {
		t.Errorf("Fresh has kept what was taken: %q", got)
	}
}

// P1: every call ends and none panics, at all arguments.

func TestNonePanics(t *testing.T) {
	huge := strings.Repeat("a.", 1<<22)
	l := append(someTexts(), huge, strings.Repeat(".", 1<<22), strings.Repeat("\xff", 1<<20))
	for _, s := range l {
		name.Right(s)
		name.Parts(s)
		name.Join(s)
		name.Join(s, s)
		name.Parent(s)
		name.Last(s)
		name.Under(s, s)
		name.Under(s, "a")
		name.Under("a", s)
		name.Fresh(s)
		name.Fresh(s, s)
		name.Fresh("a", s, "a")
		name.Sort([]string{s, s})
	}
	name.Join(l...)
	name.Fresh("a", l...)
	name.Sort(l)
	name.Join()
	name.Sort(nil)
}

func ExampleParts() {
	fmt.Println(name.Parts("nat.add"))
	// Output: [nat add]
}

func ExampleFresh() {
	fmt.Println(name.Fresh("x", "x", "x_1"))
	// Output: x_2
}
