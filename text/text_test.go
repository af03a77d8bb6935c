package text_test

import (
	"math/rand"
	"slices"
	"strings"
	"testing"

	"scholium/api"
	"scholium/text"
)

// short is a text, cut off where it is long.
func short(s string) string {
	if len(s) > 80 {
		return s[:80] + " .."
	}
	return s
}

// isLevel holds what is read against a level.
func isLevel(t *testing.T, s string, want api.Level) {
	t.Helper()
	if got, ok := text.ReadLevel(s); !ok || !equalLevels(got, want) {
		t.Errorf("ReadLevel(%q) is %v, %v", short(s), got, ok)
	}
}

func isNoLevel(t *testing.T, s string) {
	t.Helper()
	if got, ok := text.ReadLevel(s); ok || !equalLevels(got, api.Level{}) {
		t.Errorf("ReadLevel(%q) is %v, %v", short(s), got, ok)
	}
}

// isTerm holds what is read against a term.
func isTerm(t *testing.T, s string, want api.Term) {
	t.Helper()
	if got, ok := text.ReadTerm(s); !ok || !equal(got, want) {
		t.Errorf("ReadTerm(%q) is of the kind %d, %v", short(s), got.Kind, ok)
	}
}

func isNoTerm(t *testing.T, s string) {
	t.Helper()
	if got, ok := text.ReadTerm(s); ok || !equal(got, api.Term{}) {
		t.Errorf("ReadTerm(%q) is of the kind %d, %v", short(s), got.Kind, ok)
	}
}

// P7.1.

func TestLevels(t *testing.T) {
	for _, c := range []struct {
		l api.Level
		s string
	}{
		{num(0), "0"},
		{num(7), "7"},
		{num(10), "10"},
		{num(99), "99"},
		{num(100), "100"},
		{u, "u0"},
		{v, "u1"},
		{x, "u3"},
		{succ(num(0)), "(+ 0)"},
		{succ(succ(w)), "(+ (+ u2))"},
		{most(u, num(1)), "(| u0 1)"},
		{imax(u, v), "(? u0 u1)"},
		{most(most(u, v), imax(w, succ(x))), "(| (| u0 u1) (? u2 (+ u3)))"},
		{imax(succ(u), most(num(0), num(100))), "(? (+ u0) (| 0 100))"},
		{ofLevel(64), strings.Repeat("(+ ", 63) + "0" + strings.Repeat(")", 63)},
	} {
		if got := text.Level(c.l); got != c.s {
			t.Errorf("Level(%v) is %q, not %q", c.l, got, c.s)
		}
		isLevel(t, c.s, c.l)
	}
}

func TestWrongLevels(t *testing.T) {
	for i, l := range wrongLevels() {
		if got := text.Level(l); got != "" {
			t.Errorf("Level of the wrong level %d is %q", i, short(got))
		}
	}
	// These would be texts, if what they tell were right.
	isNoLevel(t, "101")
	isNoLevel(t, "u4")
	isNoLevel(t, "(+ 101)")
	isNoLevel(t, "(| u0 u4)")
	isNoLevel(t, "(? 1000 0)")
	isNoLevel(t, levelBy(ofLevel(65)))
	isNoLevel(t, levelBy(most(ofLevel(32), ofLevel(32))))
	isLevel(t, levelBy(most(ofLevel(32), ofLevel(31))), most(ofLevel(32), ofLevel(31)))
}

func TestTerms(t *testing.T) {
	for _, c := range []struct {
		t api.Term
		s string
	}{
		{lam(sort(u), lam(tvar(0), tvar(0))), `(\ (* u0) (\ #0 #0))`}, // the document's example
		{lam(sort(u), pi(tvar(0), tvar(1))), `(\ (* u0) (> #0 #1))`},
		{pi(sort(u), pi(tvar(0), tvar(1))), "(> (* u0) (> #0 #1))"},
		{tvar(0), "#0"},
		{tvar(9), "#9"},
		{tvar(10), "#10"},
		{tvar(1234567890123), "#1234567890123"},
		{sort(num(0)), "(* 0)"},
		{sort(num(100)), "(* 100)"},
		{sort(succ(most(u, v))), "(* (+ (| u0 u1)))"},
		{a, "a"},
		{con("nat.add"), "nat.add"},
		{con("u0"), "u0"},
		{con("_"), "_"},
		{con("_1.x_2"), "_1.x_2"},
		{con(longName), longName},
		{con("a", u), "(@ a u0)"},
		{con("nat.rec", num(1), imax(u, v)), "(@ nat.rec 1 (? u0 u1))"},
		{con("u0", u, v, w, x), "(@ u0 u0 u1 u2 u3)"},
		{app(a, b), "(a b)"},
		{app(a, b, c), "(a b c)"},
		{app(a, app(b, c)), "(a (b c))"},
		{app(a, app(b, c), app(a, b, c), tvar(3)), "(a (b c) (a b c) #3)"},
		{app(tvar(2), tvar(1), tvar(0)), "(#2 #1 #0)"},
		{app(sort(num(1)), con("b", u)), "((* 1) (@ b u0))"},
		{app(con("b", u), a), "((@ b u0) a)"},
		{app(lam(a, tvar(0)), b, c), `((\ a #0) b c)`},
		{app(pi(a, tvar(0)), b), "((> a #0) b)"},
		{app(let(a, b, tvar(0)), c), "((= a b #0) c)"},
		{app(app(a, b), app(app(b, c), a)), "(a b (b c a))"},
		{pi(a, b), "(> a b)"},
		{lam(app(a, b), app(b, tvar(0))), `(\ (a b) (b #0))`},
		{let(a, b, c), "(= a b c)"},
		{let(sort(u), app(a, b), lam(tvar(0), let(a, tvar(1), tvar(2)))), `(= (* u0) (a b) (\ #0 (= a #1 #2)))`},
		{deep(999, sort(u)), strings.Repeat(`(\ a `, 999) + "(* u0)" + strings.Repeat(")", 999)},
	} {
		if got := text.Term(c.t); got != c.s {
			t.Errorf("Term is %q, not %q", short(got), short(c.s))
		}
		isTerm(t, c.s, c.t)
	}
}

// TestVariables: a term may use any number of them, and its binders' more.
func TestVariables(t *testing.T) {
	for _, c := range []struct {
		t api.Term
		s string
	}{
		{tvar(anyNumber - 1), "#1125899906842623"},
		{lam(a, tvar(anyNumber)), `(\ a #1125899906842624)`},
		{pi(a, tvar(anyNumber)), "(> a #1125899906842624)"},
		{let(a, b, tvar(anyNumber)), "(= a b #1125899906842624)"},
		{lam(a, pi(b, tvar(anyNumber+1))), `(\ a (> b #1125899906842625))`},
	} {
		if got := text.Term(c.t); got != c.s {
			t.Errorf("Term is %q, not %q", got, c.s)
		}
		isTerm(t, c.s, c.t)
	}
	for _, s := range []string{
		"#1125899906842624", "#1125899906842625", "(a #1125899906842624)", `(\ a #1125899906842625)`, `(\ #1125899906842624 a)`, "(> #1125899906842624 a)", "(= #1125899906842624 a b)", "(= a #1125899906842624 b)",
		"#9223372036854775807", "#9223372036854775808", "#18446744073709551615", "#18446744073709551616", "#18446744073709551617", "#99999999999999999999999999",
	} {
		isNoTerm(t, s)
	}
}

func TestWrongTerms(t *testing.T) {
	for i, s := range wrong() {
		if got := text.Term(s); got != "" {
			t.Errorf("Term of the wrong term %d is %q", i, short(got))
		}
	}
	// These would be texts, if what they tell were right.
	for _, s := range []string{"(* 101)", "(* u4)", "(* (+ u4))", "(@ a u4)", "(@ a 0 101)", "(@ a 0 0 0 0 0)", "A", "a.", "a..b", longName + "n", "(a 1)", "(0 a)", "(> a A)"} {
		isNoTerm(t, s)
	}
	isNoTerm(t, termBy(sort(ofLevel(65))))
	isTerm(t, termBy(sort(ofLevel(64))), sort(ofLevel(64)))
}

// TestManyNodes: a term has at most 2,000.
func TestManyNodes(t *testing.T) {
	for n := 1990; n <= 2010; n++ {
		for _, s := range []api.Term{ofNodes(n), lam(ofNodes(n-2), a), let(a, b, ofNodes(n-3)), app(a, ofNodes(n-2))} {
			written := text.Term(s)
			if n <= 2000 {
				if written != termBy(s) {
					t.Errorf("Term of %d nodes is %q", n, short(written))
				}
				isTerm(t, termBy(s), s)
				continue
			}
			if written != "" {
				t.Errorf("Term of %d nodes is %q", n, short(written))
			}
			isNoTerm(t, termBy(s))
		}
	}
}

// TestLongTexts: what is read has at most 20,000 bytes; what is written may have more.
func TestLongTexts(t *testing.T) {
	for n := 19980; n <= 20020; n++ {
		s := ofBytes(n)
		written := text.Term(s)
		if len(written) != n || written != termBy(s) {
			t.Errorf("Term is %q, of %d bytes, not %d", short(written), len(written), n)
		}
		if n <= 20000 {
			isTerm(t, written, s)
		} else {
			isNoTerm(t, written)
		}
	}
	longest := con(longName)
	for range 999 {
		longest = app(con(longName), longest)
	}
	if got := text.Term(longest); got != termBy(longest) {
		t.Errorf("Term is %q, of %d bytes", short(got), len(got))
	}
	isNoTerm(t, text.Term(longest))
	for _, pad := range []string{" ", "0", "a", "(", ")", "\x00"} {
		isNoLevel(t, "0"+strings.Repeat(pad, 20000))
		isNoLevel(t, strings.Repeat(pad, 1<<20))
		isNoTerm(t, "a"+strings.Repeat(pad, 20000))
		isNoTerm(t, strings.Repeat(pad, 1<<20))
	}
}

// oddNumbers are no numbers, or not as short as can be.
var oddNumbers = []string{"", "00", "01", "007", "+1", "-0", "-1", "--1", "1-", " 1", "1 ", "0x1", "0b1", "0o1", "1_0", "_1", "1e1", "1.0", "1,0", "1a", "a1", "١", "¹", "1\x00", "1\n", "\t1", "1\r"}

func TestOddNumbers(t *testing.T) {
	for _, s := range append(oddNumbers, "101", "256", "4294967296", "9223372036854775808", "18446744073709551616", "18446744073709551617", "340282366920938463463374607431768211456") {
		isNoLevel(t, s)
		isNoLevel(t, "u"+s)
		isNoLevel(t, "(+ "+s+")")
		isNoLevel(t, "(+ u"+s+")")
		isNoTerm(t, "(* "+s+")")
		isNoTerm(t, "(@ a u"+s+")")
	}
	for _, s := range oddNumbers {
		isNoTerm(t, "#"+s)
		isNoTerm(t, "(a #"+s+")")
		isNoTerm(t, `(\ #`+s+" a)")
	}
}

func TestNoLevels(t *testing.T) {
	for _, s := range []string{
		"", " ", "u", "U0", "v0", "uu0", "u0u", "u 0", "#0", "a", "+", "|", "?", "+0", "+ 0", "| 0 0", "? 0 0",
		"()", "(", ")", ")(", "(0)", "(u0)", "(0 0)", "( )", "(+)", "(+ )", "(+0)", "( + 0)", "(+  0)", "(+ 0 )", "(+ 0", "(+ 0))", "((+ 0))", "((+ 0)", "(+ (0))", "(+ ())", "(+ 0)(+ 0)", "(+ 0) ", " (+ 0)", "(+ 0) 0", "0 0", "0 (+ 0)",
		"(+ 0 0)", "(|)", "(| 0)", "(| 0 0 0)", "(?)", "(? 0)", "(? 0 0 0)", "(? 0  0)", "(? 00)", "(?(+ 0) 0)", "(? (+ 0)0)", "(? (+ 0)(+ 0))", "(* 0)", "(> 0 0)", "(0 +)", "(u +)", "(u 0)", "(++ 0)", "(+ +)", "(| | |)",
		"0)", "0(", "0\n", "0\x00", "\x00", "\xff", "(+\t0)", "(+\n0)", "(+\u00a00)", "(+\u20000)", "[+ 0]", "{+ 0}", "(+,0)", "(＋ 0)", "（+ 0）", "(+ 0\x00)", "(+ 0)\x00",
	} {
		isNoLevel(t, s)
	}
}

func TestNoTerms(t *testing.T) {
	for _, s := range []string{
		"", " ", "#", "##0", "#a", "#0#0", "# 0", "0", "1", "A", "é", "a b", "a\x00", "\x00", "\xff", "a\n", "\\", ">", "=", "*", "@", "+", "|", "?",
		"()", "(", ")", ")(", "( )", "(a)", "(#0)", "((a))", "((a b))", "(a b", "(a b))", "((a b)", "a b)", "(a b) ", " (a b)", "(a b) c", "(a b)c", "(a b)(a b)", "(a  b)", "(a b )", "( a b)", "(a ())", "(a (b))", "((a) b)", "(a b ())", "(() a)",
		"((a b) c)", "((a b c) a)", "(((a b) c) a)", "(a ((b c) a))", "((#0 #1) a)", `(((\ a #0) b) c)`,
		"(a(b c))", "(a (b c)d)", "(a (b c)(b c))", "((* 0)a)", "(a(* 0))",
		"(*)", "(* )", "(*0)", "* 0", "(* 0 0)", "(*  0)", "(* 0 )", "(* a)", "(* #0)", "(* (* 0))", "(* (0))", "(* ())",
		"(@)", "(@ )", "(@ a)", "(@a 0)", "@ a 0", "(@ 0)", "(@ A 0)", "(@ #0 0)", "(@ (a b) 0)", "(@ (@ a 0) 0)", "(@ a b)", "(@ a #0)", "(@ a (a b))", "(@ a  0)", "(@ a 0 )", "(@ () 0)", "(@  0)", "(@ 0 a)",
		"(\\)", "(\\ a)", "(\\ a b c)", "(\\a b)", "\\ a b", "(\\ a  b)", "(\\ ab)", "(\\  a b)", "(\\ a b )", "(\\\\ a b)", "(/ a b)", "(λ a b)",
		"(>)", "(> a)", "(> a b c)", "(>a b)", "(=)", "(= a)", "(= a b)", "(= a b c a)", "(=a b c)", "(:= a b c)", "(+ 0)", "(+ a)", "(| a b)", "(? a b)",
		"(a \\)", "(a >)", "(a *)", "(a @)", "(a * 0)", "(a > b c)", "(> > a)", "((\\) a b)", "((>) a b)", "((*) 0)",
		"(a\tb)", "(a\nb)", "(a\rb)", "(a\u00a0b)", "[a b]", "(a,b)", "(a b\x00)", "(a b)\x00", "(a b)\n", "(a #0 #)",
	} {
		isNoTerm(t, s)
	}
}

// P7.3: what has a text comes back from it; no two have one text.

func TestSmallLevels(t *testing.T) {
	seen := map[string]api.Level{}
	for n := 1; n <= 5; n++ {
		for _, l := range smallLevels(n) {
			s := text.Level(l)
			if s != levelBy(l) {
				t.Fatalf("Level(%v) is %q", l, s)
			}
			isLevel(t, s, l)
			if other, ok := seen[s]; ok {
				t.Fatalf("%v and %v have the text %q", l, other, s)
			}
			seen[s] = l
		}
	}
}

func TestSmallTerms(t *testing.T) {
	seen := map[string]api.Term{}
	for _, term := range small(6) {
		s := text.Term(term)
		if s != termBy(term) {
			t.Fatalf("Term of %q is %q", termBy(term), s)
		}
		isTerm(t, s, term)
		if _, ok := seen[s]; ok {
			t.Fatalf("two terms have the text %q", s)
		}
		seen[s] = term
	}
}

func TestThrown(t *testing.T) {
	dice := rand.New(rand.NewSource(1))
	for range 2000 {
		l := thrownLevel(dice, 1+dice.Intn(64))
		if got := text.Level(l); got != levelBy(l) {
			t.Fatalf("Level(%v) is %q", l, got)
		}
		isLevel(t, levelBy(l), l)

		s := thrown(dice, 1+dice.Intn(1+dice.Intn(700)))
		written := text.Term(s)
		if written != termBy(s) {
			t.Fatalf("Term of %q is %q", short(termBy(s)), short(written))
		}
		if len(written) <= 20000 {
			isTerm(t, written, s)
		} else {
			isNoTerm(t, written)
		}
	}
}

// holdsRead: what is read out of a text, if anything is, has just this text by another way.
func holdsRead(t *testing.T, s string) {
	t.Helper()
	if got, ok := text.ReadLevel(s); ok && (text.Level(got) != s || levelBy(got) != s) || !ok && !equalLevels(got, api.Level{}) {
		t.Fatalf("ReadLevel(%q) is %v, %v", short(s), got, ok)
	}
	if got, ok := text.ReadTerm(s); ok && (text.Term(got) != s || termBy(got) != s) || !ok && !equal(got, api.Term{}) {
		t.Fatalf("ReadTerm(%q) is of the kind %d, %v", short(s), got.Kind, ok)
	}
}

// signs are bytes that texts have, and some that none has.
const signs = `() #*@\>=+|?u019a._[:A` + "\n\x00\xff"

// TestEachShortText: of all texts of up to five bytes those are read that are told, and no others.
func TestEachShortText(t *testing.T) {
	const bytes = `() #*@>+u01a.`
	levels, terms := map[string]struct{}{}, map[string]struct{}{}
	list := []string{""}
	for n := 1; n <= 5; n++ {
		var longer []string
		for _, s := range list {
			for _, b := range []byte(bytes) {
				longer = append(longer, s+string(b))
			}
		}
		list = longer
		for _, s := range list {
			holdsRead(t, s)
			if _, ok := text.ReadLevel(s); ok {
				levels[s] = struct{}{}
			}
			if _, ok := text.ReadTerm(s); ok {
				terms[s] = struct{}{}
			}
		}
	}
	for s := range levels {
		if !slices.Contains([]string{"0", "1", "10", "11", "100", "u0", "u1", "(+ 0)", "(+ 1)"}, s) {
			t.Errorf("%q is read as a level", s)
		}
	}
	if len(levels) != 9 {
		t.Errorf("%d short levels are read", len(levels))
	}
	variables, sorts := 2+2+4+8, 2
	pairs := 2 * 2
	want := names(5) + variables + sorts + pairs
	if len(terms) != want {
		t.Errorf("%d short terms are read, not %d", len(terms), want)
	}
}

// names is how many names of at most so many bytes there are of the bytes a, u, 0, 1 and the dot: a or u stands first, and behind a dot.
func names(most int) int {
	sum := 0
	ended, open := 2, 0 // of so many bytes: names, and names with a dot behind
	for range most {
		sum += ended
		ended, open = 4*ended+2*open, ended
	}
	return sum
}

// TestEachEdit: texts in which one byte is changed, left out or put in.
func TestEachEdit(t *testing.T) {
	dice := rand.New(rand.NewSource(2))
	for _, s := range slices.Concat(small(4), []api.Term{thrown(dice, 60), thrown(dice, 60), thrown(dice, 60), sort(thrownLevel(dice, 20))}) {
		written := text.Term(s)
		for i := range len(written) + 1 {
			for _, b := range []byte(signs) {
				holdsRead(t, written[:i]+string([]byte{b})+written[i:])
				if i < len(written) {
					holdsRead(t, written[:i]+string([]byte{b})+written[i+1:])
				}
			}
			holdsRead(t, written[:i])
			holdsRead(t, written[i:])
			holdsRead(t, written[:i]+written[min(i+1, len(written)):])
		}
	}
}

func TestThrownEdits(t *testing.T) {
	dice := rand.New(rand.NewSource(3))
	for range 20000 {
		b := []byte(text.Term(thrown(dice, 1+dice.Intn(40))))
		for range 1 + dice.Intn(3) {
			at, other := dice.Intn(len(b)), dice.Intn(len(b))
			switch dice.Intn(3) {
			case 0:
				b[at] = signs[dice.Intn(len(signs))]
			case 1:
				b = append(slices.Clone(b[:at+1]), b[other:]...)
			case 2:
				b[at], b[other] = b[other], b[at]
			}
		}
		holdsRead(t, string(b))
	}
}
