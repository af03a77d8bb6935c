package text_test

import (
	"math/rand"
	"reflect"
	"slices"
	"strings"
	"testing"

	"scholium/api"
	"scholium/text"
)

// P7.3, memory.

// marked is a list in memory of its own, with two behind its length.
func marked[T any](list []T, mark T) []T {
	return append(append(make([]T, 0, len(list)+2), list...), mark, mark)[:len(list)]
}

// roomy are terms in memory of their own, with spare room behind each list's length, in which something stands.
func roomy(list []api.Term) []api.Term {
	out := marked(list, api.Term{Kind: 77, N: 77, Name: "mark"})
	for i, t := range out {
		out[i].Levels, out[i].Args = roomyLevels(t.Levels), roomy(t.Args)
	}
	return out
}

func roomyLevels(list []api.Level) []api.Level {
	out := marked(list, api.Level{Kind: 77, N: 77})
	for i, l := range out {
		out[i].Args = roomyLevels(l.Args)
	}
	return out
}

// spread are terms in memory of their own, of which no list has spare room: what stood there is in it.
func spread(list []api.Term) []api.Term {
	out := slices.Clone(list[:cap(list)])
	for i, t := range out {
		out[i].Levels, out[i].Args = spreadLevels(t.Levels), spread(t.Args)
	}
	return out
}

func spreadLevels(list []api.Level) []api.Level {
	out := slices.Clone(list[:cap(list)])
	for i, l := range out {
		out[i].Args = spreadLevels(l.Args)
	}
	return out
}

// spots are where the parts of terms stand in memory, spare room too.
func spots(list []api.Term) []any {
	var l []any
	all := list[:cap(list)]
	for i := range all {
		l = append(append(append(l, &all[i]), spots(all[i].Args)...), levelSpots(all[i].Levels)...)
	}
	return l
}

func levelSpots(list []api.Level) []any {
	var l []any
	all := list[:cap(list)]
	for i := range all {
		l = append(append(l, &all[i]), levelSpots(all[i].Args)...)
	}
	return l
}

// areApart: is no part told twice?
func areApart(spots []any) bool {
	seen := map[any]struct{}{}
	for _, spot := range spots {
		seen[spot] = struct{}{}
	}
	return len(seen) == len(spots)
}

func overwrite(spots []any) {
	for _, spot := range spots {
		switch part := spot.(type) {
		case *api.Term:
			*part = api.Term{Kind: 55, N: 55, Name: "gone"}
		case *api.Level:
			*part = api.Level{Kind: 55, N: 55}
		}
	}
}

// handed are terms that are handed in, right ones and wrong ones.
func handed() []api.Term {
	l := append(wrongNodes(), ofNodes(1999), ofNodes(2001), deep(999, a))
	dice := rand.New(rand.NewSource(4))
	for range 300 {
		l = append(l, thrown(dice, 1+dice.Intn(80)))
	}
	return append(l, sort(most(u, succ(v))), con("a", most(u, succ(v)), w))
}

func TestNothingIsChanged(t *testing.T) {
	for _, one := range handed() {
		in := roomy([]api.Term{one, app(a, b)})
		was := spread(in)
		text.Term(in[0])
		if len(in[0].Levels) > 0 {
			text.Level(in[0].Levels[0])
		}
		if !reflect.DeepEqual(spread(in), was) {
			t.Fatalf("what was handed in is changed: %q", text.Term(one))
		}
		ctors := marked([]api.Ctor{{Name: "c", Type: in[0]}, {Name: "d", Type: in[1]}}, api.Ctor{Name: "mark"})
		for kind := range 7 {
			text.Decl(api.Decl{Kind: kind, Name: "n", Type: in[1], Value: in[0], Ctors: ctors})
			text.Decl(api.Decl{Kind: kind, Name: "n", Type: in[0], Value: in[1], Ctors: ctors[:1]})
		}
		names := []string{ctors[0].Name, ctors[1].Name, ctors[:4][2].Name, ctors[:4][3].Name}
		if !reflect.DeepEqual(spread(in), was) || !slices.Equal(names, []string{"c", "d", "mark", "mark"}) {
			t.Fatalf("what was handed in is changed by Decl: %q", text.Term(one))
		}
	}
}

// TestAnswersAreNew: no two lists of an answer share memory, and another answer stays as it is when one is changed.
func TestAnswersAreNew(t *testing.T) {
	for _, one := range handed() {
		s := termBy(app(app(a, a), pi(a, a)))
		if written := text.Term(one); written != "" && len(written) <= 20000 {
			s = written
		}
		first, _ := text.ReadTerm(s)
		second, ok := text.ReadTerm(s)
		got := []api.Term{first, second}
		if !ok || !areApart(spots(got)) {
			t.Fatalf("ReadTerm(%q) shares memory, or is %v", short(s), ok)
		}
		overwrite(spots(got[:1:1]))
		isTerm(t, s, second)
	}
	for n := 1; n <= 4; n++ {
		for _, l := range smallLevels(n) {
			s := text.Level(l)
			first, _ := text.ReadLevel(s)
			second, ok := text.ReadLevel(s)
			got := []api.Level{first, second}
			if !ok || !areApart(levelSpots(got)) {
				t.Fatalf("ReadLevel(%q) shares memory, or is %v", s, ok)
			}
			overwrite(levelSpots(got[:1:1]))
			isLevel(t, s, second)
		}
	}
}

// TestNothingIsKept: a text stays as it is when what it tells is changed.
func TestNothingIsKept(t *testing.T) {
	in := roomy([]api.Term{app(con("a", u), sort(most(u, v)), lam(b, tvar(0)))})
	s := text.Term(in[0])
	d := text.Decl(axiom("d", 0, in[0]))
	overwrite(spots(in))
	if s != `((@ a u0) (* (| u0 u1)) (\ b #0))` || d != "axiom d 0 "+s {
		t.Errorf("the texts are %q and %q now", s, d)
	}
}

// TestEmptyLists: a nil list and an empty one are the same.
func TestEmptyLists(t *testing.T) {
	empty := func(t api.Term) api.Term {
		t.Levels, t.Args = append([]api.Level{}, t.Levels...), append([]api.Term{}, t.Args...)
		return t
	}
	zero := api.Level{Kind: api.LNum, Args: []api.Level{}}
	s := empty(app(empty(a), empty(tvar(1)), empty(sort(zero)), empty(con("b", zero))))
	if got := text.Term(s); got != "(a #1 (* 0) (@ b 0))" {
		t.Errorf("Term is %q", got)
	}
	if got := text.Level(zero); got != "0" {
		t.Errorf("Level is %q", got)
	}
	d := family("d", 0, empty(a), 0, []api.Ctor{}...)
	d.Ctors = []api.Ctor{}
	isDecl(t, d, "ind d 0 a 0")
}

// P1: every call ends, and none panics.

func TestEveryCallEnds(t *testing.T) {
	for _, l := range wrongLevels() {
		text.Level(l)
	}
	for _, s := range slices.Concat(wrong(), endless(), small(3)) {
		text.Term(s)
		for kind := -1; kind < 8; kind++ {
			text.Decl(api.Decl{Kind: kind, Type: s, Value: s, Ctors: []api.Ctor{{Type: s}, {Type: a}}})
			text.Decl(api.Decl{Kind: kind, Type: a, Value: s, Ctors: []api.Ctor{{Type: s}, {Type: a}}})
		}
	}
	for _, s := range []string{"(", ")", " ", "((", "))", "()", ")(", "( ", " (", ") ", "(a ", "(+ ", "(* ", "(@ ", `(\ `, `(\ a `, "(> a ", "(= a ", "(= a b ", "(| 0 ", "(? ", "(a) ", "a)", "# ", "(#", "(u", "@", "(@ a ", "\x00", "\xff", "é", "9"} {
		for _, n := range []int{1, 2, 3, 100, 1000, 20000 / len(s), 20000, 1 << 20} {
			holdsRead(t, strings.Repeat(s, n))
			holdsRead(t, strings.Repeat(s, n)+"a"+strings.Repeat(")", n))
			holdsRead(t, strings.Repeat(s, n)+"0"+strings.Repeat(")", n))
		}
	}
	dice := rand.New(rand.NewSource(5))
	for range 20000 {
		b := make([]byte, dice.Intn(60))
		for i := range b {
			b[i] = byte(dice.Intn(256))
			if dice.Intn(8) > 0 {
				b[i] = signs[dice.Intn(len(signs))]
			}
		}
		holdsRead(t, string(b))
	}
}
