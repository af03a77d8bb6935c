package term_test

import (
	"math"
	"math/rand"
	"slices"
	"testing"

	"scholium/api"
	"scholium/term"
)

// P4.4.

// clone is a term in memory of its own.
func clone(t api.Term) api.Term {
	t.Levels = slices.Clone(t.Levels)
	for i := range t.Levels {
		t.Levels[i] = cloneLevel(t.Levels[i])
	}
	t.Args = slices.Clone(t.Args)
	for i := range t.Args {
		t.Args[i] = clone(t.Args[i])
	}
	return t
}

func cloneLevel(l api.Level) api.Level {
	l.Args = slices.Clone(l.Args)
	for i := range l.Args {
		l.Args[i] = cloneLevel(l.Args[i])
	}
	return l
}

var (
	mark      = api.Term{Kind: 77, N: 77, Name: "mark"}
	markLevel = api.Level{Kind: 77, N: 77}
)

// roomy is a list of terms in memory of its own, with marks behind each list's length.
func roomy(list []api.Term) []api.Term {
	out := make([]api.Term, len(list), len(list)+2)
	for i, t := range list {
		t.Levels, t.Args = roomyLevels(t.Levels), roomy(t.Args)
		out[i] = t
	}
	out[:cap(out)][len(out)], out[:cap(out)][len(out)+1] = mark, mark
	return out
}

func roomyLevels(list []api.Level) []api.Level {
	out := make([]api.Level, len(list), len(list)+2)
	for i, l := range list {
		l.Args = roomyLevels(l.Args)
		out[i] = l
	}
	out[:cap(out)][len(out)], out[:cap(out)][len(out)+1] = markLevel, markLevel
	return out
}

// isRoomy: do lists still have their marks?
func isRoomy(list []api.Term) bool {
	for _, t := range list {
		if !isRoomy(t.Args) || !isRoomyLevels(t.Levels) {
			return false
		}
	}
	behind := list[len(list):cap(list)]
	return len(behind) == 2 && equal(behind[0], mark) && equal(behind[1], mark)
}

func isRoomyLevels(list []api.Level) bool {
	for _, l := range list {
		if !isRoomyLevels(l.Args) {
			return false
		}
	}
	behind := list[len(list):cap(list)]
	return len(behind) == 2 && equalLevels(behind[0], markLevel) && equalLevels(behind[1], markLevel)
}

// places gathers where lists stand, spare room too.
type places struct {
	terms  map[*api.Term]bool
	levels map[*api.Level]bool
}

func newPlaces() places {
	return places{map[*api.Term]bool{}, map[*api.Level]bool{}}
}

// gather tells whether lists share no memory with what was gathered, nor with one another.
func (p places) gather(list []api.Term) bool {
	all := list[:cap(list)]
	for i := range all {
		if p.terms[&all[i]] {
			return false
		}
		p.terms[&all[i]] = true
	}
	for _, t := range list {
		if !p.gather(t.Args) || !p.gatherLevels(t.Levels) {
			return false
		}
	}
	return true
}

func (p places) gatherLevels(list []api.Level) bool {
	all := list[:cap(list)]
	for i := range all {
		if p.levels[&all[i]] {
			return false
		}
		p.levels[&all[i]] = true
	}
	for _, l := range list {
		if !p.gatherLevels(l.Args) {
			return false
		}
	}
	return true
}

func overwrite(list []api.Term) {
	all := list[:cap(list)]
	for i := range all {
		overwrite(all[i].Args)
		overwriteLevels(all[i].Levels)
		all[i] = api.Term{Kind: 55, N: 55, Name: "gone"}
	}
}

func overwriteLevels(list []api.Level) {
	all := list[:cap(list)]
	for i := range all {
		overwriteLevels(all[i].Args)
		all[i] = api.Level{Kind: 55, N: 55}
	}
}

// calls are the calls that answer terms, of three terms at least, and of levels, that are handed in.
func calls(list []api.Term, levels []api.Level) map[string]func() []api.Term {
	one := func(t api.Term) []api.Term { return []api.Term{t} }
	either := func(t api.Term, ok bool) []api.Term { return one(t) }
	return map[string]func() []api.Term{
		"Levels":      func() []api.Term { return either(term.Levels(list[0], levels)) },
		"Levels two":  func() []api.Term { return either(term.Levels(list[1], levels[:2])) },
		"Levels four": func() []api.Term { return either(term.Levels(list[2], append(levels[:2:2], levels[:2]...))) },
		"Spine": func() []api.Term {
			head, args := term.Spine(list[0])
			return append(args, head)
		},
		"Spine alone": func() []api.Term {
			_, args := term.Spine(list[1])
			return args
		},
		"Sort":       func() []api.Term { return one(term.Sort(levels[0])) },
		"Const":      func() []api.Term { return one(term.Const("a", levels...)) },
		"Const two":  func() []api.Term { return one(term.Const("a", levels[0], levels[0])) },
		"App":        func() []api.Term { return one(term.App(list[0], list[1:]...)) },
		"App none":   func() []api.Term { return one(term.App(list[0])) },
		"App same":   func() []api.Term { return one(term.App(list[0], list[0], list[0])) },
		"Lam":        func() []api.Term { return one(term.Lam(list[0], list[1:]...)) },
		"Lam none":   func() []api.Term { return one(term.Lam(list[0])) },
		"Lam same":   func() []api.Term { return one(term.Lam(list[0], list[0], list[0])) },
		"Pi":         func() []api.Term { return one(term.Pi(list[0], list[1:]...)) },
		"Pi none":    func() []api.Term { return one(term.Pi(list[0])) },
		"Pi same":    func() []api.Term { return one(term.Pi(list[0], list[0], list[0])) },
		"Let":        func() []api.Term { return one(term.Let(list[0], list[1], list[2])) },
		"Let same":   func() []api.Term { return one(term.Let(list[0], list[0], list[0])) },
		"Arrow":      func() []api.Term { return either(term.Arrow(list[0], list[1:]...)) },
		"Arrow two":  func() []api.Term { return either(term.Arrow(list[0], list[1:2]...)) },
		"Arrow none": func() []api.Term { return either(term.Arrow(list[0])) },
		"Arrow same": func() []api.Term { return either(term.Arrow(list[0], list[0], list[0])) },
	}
}

// handed is what is handed in to calls.
type handed struct {
	list   []api.Term
	levels []api.Level
}

func (h handed) roomy() handed { return handed{roomy(h.list), roomyLevels(h.levels)} }

func (h handed) isLike(o handed) bool {
	return slices.EqualFunc(h.list, o.list, equal) && slices.EqualFunc(h.levels, o.levels, equalLevels)
}

func someHanded() []handed {
	same := app(lam(sort(most(u, v)), tvar(0)), con("a", u, v))
	l := []handed{
		{[]api.Term{app(app(a, sort(succ(u))), con("b", u, num(1))), app(tvar(0), tvar(1)), sort(imax(u, x))}, []api.Level{u, most(u, v), num(2)}},
		{[]api.Term{let(sort(u), lam(a, tvar(1)), app(tvar(0), tvar(2))), app(same, same), same}, []api.Level{succ(u), succ(u)}},
		{[]api.Term{a, b, c, tvar(0), tvar(7)}, []api.Level{num(0), u}},
		{[]api.Term{of(9, a, sort(u)), of(api.TApp, a), {Kind: api.TVar, Levels: []api.Level{u, {}}}}, []api.Level{{Kind: 9, Args: []api.Level{u, {}}}, {}}},
	}
	dice := rand.New(rand.NewSource(7))
	for range 150 {
		var list []api.Term
		for range 3 + dice.Intn(3) {
			list = append(list, thrown(dice, 1+dice.Intn(16)))
		}
		levels := make([]api.Level, 2+dice.Intn(3))
		for i := range levels {
			levels[i] = thrownLevel(dice, 5)
		}
		l = append(l, handed{list, levels})
	}
	return l
}

func TestNothingIsChanged(t *testing.T) {
	for _, c := range someHanded() {
		h := c.roomy()
		for _, s := range h.list {
			term.Right(s, 4, 5)
			term.Nodes(s)
			term.Loose(s)
			term.Same(s, h.list[0])
			term.Same(h.list[0], s)
			term.Consts(s)
		}
		for what, call := range calls(h.list, h.levels) {
			call()
			if !h.isLike(c) || !isRoomy(h.list) || !isRoomyLevels(h.levels) {
				t.Fatalf("%s has changed what was handed in", what)
			}
		}
	}
}

func TestAnswersAreNew(t *testing.T) {
	for _, c := range someHanded() {
		h := c.roomy()
		for what, call := range calls(h.list, h.levels) {
			seen := newPlaces()
			seen.gather(h.list)
			seen.gatherLevels(h.levels)
			got := call()
			if !seen.gather(got) {
				t.Fatalf("%s shares memory", what)
			}
			want := roomy(got)
			overwrite(got)
			if !h.isLike(c) || !isRoomy(h.list) || !isRoomyLevels(h.levels) {
				t.Fatalf("%s: to change the answer changes what was handed in", what)
			}
			if again := call(); !slices.EqualFunc(again, want, equal) {
				t.Fatalf("%s: the second answer isn't as the first one was", what)
			}
		}
	}
}

// TestNothingIsKept: an answer stays as it is when what was handed in is changed.
func TestNothingIsKept(t *testing.T) {
	for _, c := range someHanded() {
		for what := range calls(c.list, c.levels) {
			h := c.roomy()
			got := calls(h.list, h.levels)[what]()
			want := roomy(got)
			overwrite(h.list)
			overwriteLevels(h.levels)
			if !slices.EqualFunc(got, want, equal) {
				t.Fatalf("%s: the answer changes with what was handed in", what)
			}
		}
	}
}

func TestConstsAreNew(t *testing.T) {
	s := app(app(b, a), app(a, c))
	got := term.Consts(s)
	for i := range got[:cap(got)] {
		got[:cap(got)][i] = "gone"
	}
	if again := term.Consts(s); !slices.Equal(again, []string{"a", "b", "c"}) || !equal(s, app(app(b, a), app(a, c))) {
		t.Errorf("the second answer is %v", again)
	}
}

// P1: every call ends, and none panics.

func TestEveryCallEnds(t *testing.T) {
	for i, s := range endless() {
		for _, k := range []int{-1, 0, 4, any, math.MinInt, math.MaxInt} {
			if term.Right(s, 4, k) {
				t.Errorf("Right of the endless one %d is true", i)
			}
		}
		if got := term.Nodes(s); got != 2001 {
			t.Errorf("Nodes of the endless one %d is %d", i, got)
		}
		if term.Loose(s) != 0 || len(term.Consts(s)) != 0 || term.Same(s, a) || term.Same(a, s) {
			t.Errorf("the endless one %d is taken for a right one", i)
		}
		if got, ok := term.Levels(s, []api.Level{u, v, w, x}); ok || !isNothing(got) {
			t.Errorf("Levels of the endless one %d: %v", i, ok)
		}
		for _, list := range [][]api.Term{{s}, {s, a}, {a, s}, {a, b, s}} {
			if got, ok := term.Arrow(list[0], list[1:]...); ok || !isNothing(got) {
				t.Errorf("Arrow of the endless one %d: %v", i, ok)
			}
		}
	}
	for i, s := range append(wrong(), great()...) {
		term.Spine(s)
		term.Right(s, math.MinInt, math.MaxInt)
		term.Right(s, math.MaxInt, math.MinInt)
		if got := []api.Term{term.App(s, s, a), term.Lam(s, s), term.Pi(s, s, s), term.Let(s, s, s)}; slices.ContainsFunc(got, func(t api.Term) bool { return term.Right(t, 4, any) }) {
			t.Errorf("what is made of the wrong one %d is right", i)
		}
	}
	for _, levels := range [][]api.Level{nil, {{}}, {{Kind: -1, Args: make([]api.Level, 1<<16)}}, make([]api.Level, 1<<16)} {
		term.Const("", levels...)
		term.Levels(a, levels)
		term.Levels(sort(u), levels)
	}
	term.App(api.Term{})
	term.Lam(api.Term{})
	term.Pi(api.Term{})
	term.Let(api.Term{}, api.Term{}, api.Term{})
	term.Spine(api.Term{})
	term.Arrow(api.Term{})
}

// TestMakersOfEndless: what is beyond the document's bounds isn't kept, and nothing hangs on it.
func TestMakersOfEndless(t *testing.T) {
	makers := []func(s api.Term) api.Term{
		func(s api.Term) api.Term { return term.App(a, s) },
		func(s api.Term) api.Term { return term.App(s, a) },
		func(s api.Term) api.Term { return term.Lam(s, a) },
		func(s api.Term) api.Term { return term.Pi(a, s) },
		func(s api.Term) api.Term { return term.Let(a, s, b) },
	}
	for i, s := range endless() {
		if got := makers[i%len(makers)](s); size(got) > 4 || term.Right(got, 4, any) {
			t.Errorf("what is made of the endless one %d is %s", i, show(got))
		}
		if head, args := term.Spine(s); len(args) != 0 || !isNothing(head) {
			t.Errorf("the endless one %d has a spine", i)
		}
		term.Same(s, s)
		term.Const("a", s.Levels...)
		if len(s.Levels) == 1 {
			term.Sort(s.Levels[0])
		}
	}
}
