package bind_test

import (
	"math"
	"math/rand"
	"reflect"
	"slices"
	"testing"

	"scholium/api"
	"scholium/bind"
	"scholium/level"
	"scholium/term"
)

// P6.4, what comes to the same.

// fine is an answer's term, of a call that may not fail.
func fine(t *testing.T, got answer) api.Term {
	t.Helper()
	if !got.ok {
		t.Fatal("there is no outcome")
	}
	return got.t
}

func TestInstOfLift(t *testing.T) {
	dice := rand.New(rand.NewSource(11))
	for _, s := range several(12) {
		for n := range 5 {
			args := thrownList(dice, n)
			isAs(t, ask(bind.Inst(fine(t, ask(bind.Lift(s, n, 0))), args...)), s, "Inst of Lift", s, args)
		}
	}
	full := app(ofNodes(1997), con("a", u))
	isAs(t, ask(bind.Inst(fine(t, ask(bind.Lift(full, 1, 0))), full)), full, "Inst of Lift of 2,000 nodes")
	many := slices.Repeat([]api.Term{b}, 1<<20)
	isAs(t, ask(bind.Inst(fine(t, ask(bind.Lift(full, 1<<20, 0))), many...)), full, "Inst of Lift by 2^20")
}

// TestOrderOfTwo: two variables have terms put in their place, either one first, or both at once.
func TestOrderOfTwo(t *testing.T) {
	dice := rand.New(rand.NewSource(13))
	for _, s := range several(14) {
		two := thrownList(dice, 2)
		first, second := two[0], two[1]
		want := fine(t, ask(bind.Inst(s, first, second)))

		lastOne := fine(t, ask(bind.Inst(s, fine(t, ask(bind.Lift(second, 1, 0))))))
		isAs(t, ask(bind.Inst(lastOne, first)), want, "Inst, the variable 0 first", s, first, second)

		// The variable 1 is 0 outside of a binder for the other one.
		firstOne := fine(t, ask(bind.Inst(lam(a, s), first))).Args[1]
		isAs(t, ask(bind.Inst(firstOne, second)), want, "Inst, the variable 1 first", s, first, second)
	}
}

// TestOneWithinTheOther: what is put in may hang on a variable that has a term put in its place, too.
func TestOneWithinTheOther(t *testing.T) {
	dice := rand.New(rand.NewSource(15))
	for _, s := range several(16) {
		two := thrownList(dice, 2)
		outer, inner := two[0], two[1]
		one := fine(t, ask(bind.Inst(fine(t, ask(bind.Inst(s, inner))), outer)))

		body := fine(t, ask(bind.Inst(lam(a, s), outer))).Args[1]
		isAs(t, ask(bind.Inst(body, fine(t, ask(bind.Inst(inner, outer))))), one, "Inst of Inst", s, inner, outer)
	}
}

// P6.4, memory.

// marked is a list in memory of its own, with two behind its length.
func marked[T any](list []T, mark T) []T {
	return append(append(make([]T, 0, len(list)+2), list...), mark, mark)[:len(list)]
}

// roomy are terms in memory of their own, with spare room behind each list's length, in which something stands.
func roomy(list []api.Term) []api.Term {
	out := marked(list, api.Term{Kind: 77, N: 77, Name: "mark"})
	for i, t := range out {
		out[i].Levels, out[i].Args = roomyLevels(t.Levels), roomy(t.Args)
	}
	return out
}

func roomyLevels(list []api.Level) []api.Level {
	out := marked(list, api.Level{Kind: 77, N: 77})
	for i, l := range out {
		out[i].Args = roomyLevels(l.Args)
	}
	return out
}

// spread are terms in memory of their own, of which no list has spare room: what stood there is in it.
func spread(list []api.Term) []api.Term {
	out := slices.Clone(list[:cap(list)])
	for i, t := range out {
		out[i].Levels, out[i].Args = spreadLevels(t.Levels), spread(t.Args)
	}
	return out
}

func spreadLevels(list []api.Level) []api.Level {
	out := slices.Clone(list[:cap(list)])
	for i, l := range out {
		out[i].Args = spreadLevels(l.Args)
	}
	return out
}

// spots are where the parts of terms stand in memory, spare room too.
func spots(list []api.Term) []any {
	var l []any
	all := list[:cap(list)]
	for i := range all {
		l = append(append(append(l, &all[i]), spots(all[i].Args)...), levelSpots(all[i].Levels)...)
	}
	return l
}

func levelSpots(list []api.Level) []any {
	var l []any
	all := list[:cap(list)]
	for i := range all {
		l = append(append(l, &all[i]), levelSpots(all[i].Args)...)
	}
	return l
}

// areApart: is no part told twice?
func areApart(spots []any) bool {
	seen := map[any]struct{}{}
	for _, spot := range spots {
		seen[spot] = struct{}{}
	}
	return len(seen) == len(spots)
}

func overwrite(spots []any) {
	for _, spot := range spots {
		switch part := spot.(type) {
		case *api.Term:
			*part = api.Term{Kind: 55, N: 55, Name: "gone"}
		case *api.Level:
			*part = api.Level{Kind: 55, N: 55}
		}
	}
}

// calls are those that answer terms, of three terms that are handed in.
func calls() map[string]func(in []api.Term) answer {
	return map[string]func(in []api.Term) answer{
		"Lift":           func(in []api.Term) answer { return ask(bind.Lift(in[0], 3, 1)) },
		"Lift by 0":      func(in []api.Term) answer { return ask(bind.Lift(in[0], 0, 0)) },
		"Lower":          func(in []api.Term) answer { return ask(bind.Lower(in[0], 1)) },
		"Lower by 0":     func(in []api.Term) answer { return ask(bind.Lower(in[0], 0)) },
		"Inst":           func(in []api.Term) answer { return ask(bind.Inst(in[0], in[1:]...)) },
		"Inst of none":   func(in []api.Term) answer { return ask(bind.Inst(in[0])) },
		"Inst of itself": func(in []api.Term) answer { return ask(bind.Inst(in[0], in...)) },
		"Replace":        func(in []api.Term) answer { return ask(bind.Replace(in[0], "a", in[1])) },
		"Replace itself": func(in []api.Term) answer { return ask(bind.Replace(in[0], "b", in[0])) },
		"Replace none":   func(in []api.Term) answer { return ask(bind.Replace(in[0], "z", in[1])) },
		"Abstract":       func(in []api.Term) answer { return ask(bind.Abstract(in[0], "b", "a")) },
		"Abstract none":  func(in []api.Term) answer { return ask(bind.Abstract(in[0])) },
	}
}

// handed are lists of three terms that are handed in.
func handed() [][]api.Term {
	levels := con("b", level.Max(u, level.Succ(v)), u)
	twice := app(lam(term.Sort(level.IMax(u, v)), tvar(0)), levels)
	l := [][]api.Term{
		{app(twice, twice, tvar(0), tvar(1), a), twice, levels},
		{tvar(0), levels, levels},
		{levels, levels, levels},
		{a, lam(twice, tvar(2)), twice},
		{lam(a, app(tvar(1), tvar(2), tvar(3))), term.Sort(u), tvar(0)},
		{app(tvar(1), tvar(2)), let(a, b, levels), tvar(0)},
		{{Kind: 9, Levels: []api.Level{u, {}}}, a, of(api.TApp, a)},
		{app(a, tvar(0)), a, of(api.TApp, a)},
		{app(tvar(1), a), ofNodes(1999), ofNodes(1999)},
	}
	dice := rand.New(rand.NewSource(17))
	for range 150 {
		l = append(l, []api.Term{thrown(dice, 1+dice.Intn(40), 3), thrown(dice, 1+dice.Intn(12), 3), thrown(dice, 1+dice.Intn(12), 3)})
	}
	return l
}

func TestNothingIsChanged(t *testing.T) {
	for _, list := range handed() {
		in := roomy(list)
		was := spread(in)
		for what, call := range calls() {
			call(in)
			if !reflect.DeepEqual(spread(in), was) {
				t.Fatalf("%s has changed what was handed in", what)
			}
		}
		bind.Uses(in[0], 0)
		bind.Count(in[0], 1)
		bind.Occurs(in[0], "a")
		if !reflect.DeepEqual(spread(in), was) {
			t.Fatal("what only asks has changed what was handed in")
		}
	}
}

func TestNamesAreNotChanged(t *testing.T) {
	names := []string{"b", "a", "b", "behind", "behind"}
	bind.Abstract(app(a, b), names[:3]...)
	bind.Abstract(api.Term{}, names[:3]...)
	if !slices.Equal(names, []string{"b", "a", "b", "behind", "behind"}) {
		t.Errorf("the names are %v", names)
	}
}

func TestAnswersAreNew(t *testing.T) {
	for _, list := range handed() {
		in := roomy(list)
		was := spread(in)
		for what, call := range calls() {
			got := []api.Term{call(in).t}
			copied := spread(roomy(got))
			if !areApart(slices.Concat(spots(in), spots(got))) {
				t.Fatalf("%s shares memory", what)
			}
			overwrite(spots(got))
			if !reflect.DeepEqual(spread(in), was) {
				t.Fatalf("%s: to change the answer changes what was handed in", what)
			}
			if again := []api.Term{call(in).t}; !reflect.DeepEqual(spread(roomy(again)), copied) {
				t.Fatalf("%s: the second answer isn't as the first one was", what)
			}
		}
	}
}

// TestNothingIsKept: an answer stays as it is when what was handed in is changed.
func TestNothingIsKept(t *testing.T) {
	for _, list := range handed() {
		for what, call := range calls() {
			in := roomy(list)
			got := []api.Term{call(in).t}
			copied := spread(roomy(got))
			overwrite(spots(in))
			if !reflect.DeepEqual(spread(roomy(got)), copied) {
				t.Fatalf("%s: the answer changes with what was handed in", what)
			}
		}
	}
}

// TestEmptyLists: a nil list and an empty one are the same.
func TestEmptyLists(t *testing.T) {
	empty := func(t api.Term) api.Term {
		t.Levels, t.Args = append([]api.Level{}, t.Levels...), append([]api.Term{}, t.Args...)
		return t
	}
	s := of(api.TLam, empty(a), empty(of(api.TApp, empty(tvar(1)), empty(con("b", u)))))
	isAs(t, ask(bind.Lift(s, 1, 0)), lam(a, app(tvar(2), con("b", u))), "Lift", s)
	isAs(t, ask(bind.Inst(s, []api.Term{}...)), s, "Inst", s)
	isAs(t, ask(bind.Inst(s, empty(c))), lam(a, app(c, con("b", u))), "Inst", s)
	isAs(t, ask(bind.Abstract(s, []string{}...)), s, "Abstract", s)
	if !bind.Uses(s, 0) || !bind.Occurs(s, "b") {
		t.Error("in a term with empty lists something is overlooked")
	}
}

// P1: every call ends, and none panics.

func TestEveryCallEnds(t *testing.T) {
	numbers := []int{0, 1, 2, -1, 1 << 20, 1<<20 + 1, 1 << 50, math.MinInt, math.MaxInt}
	terms := slices.Concat(wrong(), endless(), small(3), []api.Term{ofNodes(1999), deep(999, tvar(999)), deep(1<<15, a), {Kind: api.TApp, Args: make([]api.Term, 1<<17)}})
	for _, s := range terms {
		for _, n := range numbers {
			for _, m := range numbers {
				bind.Lift(s, n, m)
			}
			bind.Lower(s, n)
			bind.Uses(s, n)
			bind.Count(s, n)
		}
		for _, name := range []string{"", "a", "\xff", "a.b", string(make([]byte, 1<<16))} {
			bind.Occurs(s, name)
			bind.Replace(s, name, s)
			bind.Abstract(s, name, name, s.Name)
		}
		bind.Inst(s, s, s)
		bind.Inst(s, terms...)
		bind.Abstract(s, make([]string, 1<<10)...)
	}
}
