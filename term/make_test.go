package term_test

import (
	"math"
	"math/rand"
	"slices"
	"testing"

	"scholium/api"
	"scholium/term"
)

// P4.3, Spine.

func TestSpine(t *testing.T) {
	apart := of(api.TApp, a)
	for _, c := range []struct {
		t, head api.Term
		args    []api.Term
	}{
		{tvar(0), tvar(0), nil},
		{a, a, nil},
		{sort(u), sort(u), nil},
		{con("a", u, v), con("a", u, v), nil},
		{lam(a, b), lam(a, b), nil},
		{pi(a, app(b, c)), pi(a, app(b, c)), nil},
		{let(a, b, c), let(a, b, c), nil},
		{app(a, b), a, []api.Term{b}},
		{app(app(a, b), c), a, []api.Term{b, c}},
		{app(app(app(tvar(4), b), c), sort(u)), tvar(4), []api.Term{b, c, sort(u)}},
		{app(a, app(b, c)), a, []api.Term{app(b, c)}},
		{app(app(a, app(b, c)), app(c, b)), a, []api.Term{app(b, c), app(c, b)}},
		{app(lam(a, app(tvar(0), b)), c), lam(a, app(tvar(0), b)), []api.Term{c}},
		{app(let(a, b, app(c, c)), c), let(a, b, app(c, c)), []api.Term{c}},
		// Of wrong ones.
		{api.Term{}, api.Term{}, nil},
		{apart, apart, nil},
		{of(api.TApp), of(api.TApp), nil},
		{of(api.TApp, a, b, c), of(api.TApp, a, b, c), nil},
		{of(api.TApp, app(a, b), b, c), of(api.TApp, app(a, b), b, c), nil},
		{of(9, a, b), of(9, a, b), nil},
		{of(0, a, b), of(0, a, b), nil},
		{app(apart, b), apart, []api.Term{b}},
		{app(tvar(-1), con("A")), tvar(-1), []api.Term{con("A")}},
		{api.Term{Kind: api.TApp, N: 5, Name: "x", Levels: []api.Level{u}, Args: []api.Term{a, b}}, a, []api.Term{b}},
		{api.Term{Kind: api.TConst, N: 5, Name: "A", Levels: []api.Level{{}, num(-3)}, Args: []api.Term{a, b}}, api.Term{Kind: api.TConst, N: 5, Name: "A", Levels: []api.Level{{}, num(-3)}, Args: []api.Term{a, b}}, nil},
	} {
		head, args := term.Spine(c.t)
		if !equal(head, c.head) || !slices.EqualFunc(args, c.args, equal) {
			t.Errorf("the spine of %s is %s, applied to %d", show(c.t), show(head), len(args))
		}
	}
}

func TestSpineOfMany(t *testing.T) {
	for _, n := range []int{1, 2, 10, 999, 1000, 5000, 1<<16 - 2} {
		s := sort(v)
		for i := range n {
			s = app(s, tvar(i))
		}
		head, args := term.Spine(s)
		if !equal(head, sort(v)) || len(args) != n {
			t.Fatalf("the spine of one applied to %d has %d", n, len(args))
		}
		for i, arg := range args {
			if !equal(arg, tvar(i)) {
				t.Fatalf("the argument %d of %d is %s", i, n, show(arg))
			}
		}
	}
	dice := rand.New(rand.NewSource(5))
	for range 2000 {
		s := thrown(dice, 1+dice.Intn(40))
		head, args := term.Spine(s)
		back := head
		for _, arg := range args {
			back = app(back, arg)
		}
		if head.Kind == api.TApp || !equal(back, s) {
			t.Fatalf("the spine of %s is %s, applied to %d", show(s), show(head), len(args))
		}
	}
}

// P4.3, what makes terms.

func TestLeaves(t *testing.T) {
	for _, n := range []int{0, 1, 7, 1 << 50, -1, math.MinInt, math.MaxInt} {
		if got := term.Var(n); !equal(got, tvar(n)) {
			t.Errorf("Var(%d) is %s", n, show(got))
		}
	}
	for _, l := range []api.Level{u, num(0), most(u, succ(v)), num(-1), {}, {Kind: 9, N: 3, Args: []api.Level{u, {}}}, ofLevel(64), ofLevel(65), ofLevel(5000)} {
		if got := term.Sort(l); !equal(got, sort(l)) {
			t.Errorf("Sort is %s, not %s", show(got), show(sort(l)))
		}
		for _, name := range []string{"a", "nat.add", "", "A", "a\xff"} {
			for _, list := range [][]api.Level{{l}, {l, u}, {u, l}, {u, v, l, l, w, x}} {
				if got := term.Const(name, list...); !equal(got, con(name, list...)) {
					t.Errorf("Const is %s, not %s", show(got), show(con(name, list...)))
				}
			}
		}
	}
	for _, got := range []api.Term{term.Const("a"), term.Const("a", []api.Level{}...)} {
		if !equal(got, a) {
			t.Errorf("Const(a) is %s", show(got))
		}
	}
	if got := term.Const(""); !equal(got, con("")) {
		t.Errorf("Const of an empty text is %s", show(got))
	}
}

func TestMakers(t *testing.T) {
	for _, s := range append(wrong(), small(4)...) {
		for _, c := range []struct {
			what      string
			got, want api.Term
		}{
			{"App", term.App(s), s},
			{"App", term.App(s, a), app(s, a)},
			{"App", term.App(a, s), app(a, s)},
			{"App", term.App(a, b, s), app(app(a, b), s)},
			{"App", term.App(s, b, a), app(app(s, b), a)},
			{"App", term.App(s, s), app(s, s)},
			{"Lam", term.Lam(s), s},
			{"Lam", term.Lam(s, a), lam(a, s)},
			{"Lam", term.Lam(a, s), lam(s, a)},
			{"Lam", term.Lam(a, b, s), lam(b, lam(s, a))},
			{"Lam", term.Lam(s, s, b), lam(s, lam(b, s))},
			{"Pi", term.Pi(s), s},
			{"Pi", term.Pi(s, a), pi(a, s)},
			{"Pi", term.Pi(a, s), pi(s, a)},
			{"Pi", term.Pi(a, b, s), pi(b, pi(s, a))},
			{"Pi", term.Pi(s, s, b), pi(s, pi(b, s))},
			{"Let", term.Let(s, a, b), let(s, a, b)},
			{"Let", term.Let(a, s, b), let(a, s, b)},
			{"Let", term.Let(a, b, s), let(a, b, s)},
			{"Let", term.Let(s, s, s), let(s, s, s)},
		} {
			if !equal(c.got, c.want) {
				t.Fatalf("%s is %s, not %s", c.what, show(c.got), show(c.want))
			}
		}
	}
}

// TestMakersOfMuch: what isn't right is kept whole, as far as the document's bound goes.
func TestMakersOfMuch(t *testing.T) {
	for _, s := range great() {
		for i, got := range []api.Term{term.App(s, a), term.App(a, s), term.Lam(s, a), term.Pi(a, s), term.Let(a, s, b)} {
			want := []api.Term{app(s, a), app(a, s), lam(a, s), pi(s, a), let(a, s, b)}[i]
			if !equal(got, want) {
				t.Errorf("%d of %s isn't kept", i, show(s))
			}
		}
	}
	l := ofLevel(1<<16 - 2)
	if !equal(term.Sort(l), sort(l)) || !equal(term.Const("a", u, l), con("a", u, l)) {
		t.Error("a great level isn't kept")
	}
}

func TestMakersOfSeveral(t *testing.T) {
	list := []api.Term{a, tvar(0), sort(u), lam(a, tvar(0)), con("b", u), tvar(1)}
	for n := range len(list) + 1 {
		applied, function, functions := c, tvar(2), tvar(2)
		for i := range n {
			applied = app(applied, list[i])
			function, functions = lam(list[n-1-i], function), pi(list[n-1-i], functions)
		}
		if got := term.App(c, list[:n]...); !equal(got, applied) {
			t.Errorf("App of %d is %s", n, show(got))
		}
		if got := term.Lam(tvar(2), list[:n]...); !equal(got, function) {
			t.Errorf("Lam of %d is %s", n, show(got))
		}
		if got := term.Pi(tvar(2), list[:n]...); !equal(got, functions) {
			t.Errorf("Pi of %d is %s", n, show(got))
		}
	}
	// The example of the document: the function that answers its first one.
	if got := term.Lam(term.Var(1), term.Sort(num(0)), term.Var(0)); !equal(got, lam(sort(num(0)), lam(tvar(0), tvar(1)))) {
		t.Errorf("the function is %s", show(got))
	}
	many := slices.Repeat([]api.Term{b}, 1<<16-2)
	if size(term.App(a, many...)) != 2*len(many)+1 || size(term.Lam(a, many...)) != 2*len(many)+1 || size(term.Pi(a, many...)) != 2*len(many)+1 {
		t.Error("many are lost")
	}
}

// P4.3, Arrow.

// lifted is a term with so much added to the variables that are bound further out than so many binders.
func lifted(s api.Term, by, from int) api.Term {
	out := api.Term{Kind: s.Kind, N: s.N, Name: s.Name, Levels: s.Levels}
	switch s.Kind {
	case api.TVar:
		if s.N >= from {
			out.N += by
		}
	case api.TApp:
		out.Args = []api.Term{lifted(s.Args[0], by, from), lifted(s.Args[1], by, from)}
	case api.TLam, api.TPi:
		out.Args = []api.Term{lifted(s.Args[0], by, from), lifted(s.Args[1], by, from+1)}
	case api.TLet:
		out.Args = []api.Term{lifted(s.Args[0], by, from), lifted(s.Args[1], by, from), lifted(s.Args[2], by, from+1)}
	}
	return out
}

func TestArrowOrdinary(t *testing.T) {
	for _, c := range []struct {
		to   api.Term
		from []api.Term
		want api.Term
	}{
		{a, nil, a},
		{tvar(3), nil, tvar(3)},
		{a, []api.Term{b}, pi(b, a)},
		{c, []api.Term{a, b}, pi(a, pi(b, c))},
		{tvar(0), []api.Term{a}, pi(a, tvar(1))},
		{a, []api.Term{tvar(0)}, pi(tvar(0), a)},
		{tvar(0), []api.Term{tvar(0)}, pi(tvar(0), tvar(1))},
		{tvar(0), []api.Term{tvar(0), tvar(0)}, pi(tvar(0), pi(tvar(1), tvar(2)))},
		{tvar(5), []api.Term{tvar(1), tvar(2), tvar(3)}, pi(tvar(1), pi(tvar(3), pi(tvar(5), tvar(8))))},
		{lam(a, tvar(0)), []api.Term{b}, pi(b, lam(a, tvar(0)))},
		{lam(a, tvar(1)), []api.Term{b}, pi(b, lam(a, tvar(2)))},
		{pi(tvar(0), tvar(0)), []api.Term{b}, pi(b, pi(tvar(1), tvar(0)))},
		{pi(tvar(0), tvar(1)), []api.Term{b, c}, pi(b, pi(c, pi(tvar(2), tvar(3))))},
		{let(tvar(0), tvar(0), tvar(0)), []api.Term{b}, pi(b, let(tvar(1), tvar(1), tvar(0)))},
		{let(tvar(1), tvar(1), tvar(1)), []api.Term{b}, pi(b, let(tvar(2), tvar(2), tvar(2)))},
		{app(tvar(0), lam(a, lam(a, app(tvar(1), tvar(2))))), []api.Term{b}, pi(b, app(tvar(1), lam(a, lam(a, app(tvar(1), tvar(3))))))},
		{sort(x), []api.Term{con("a", u, v), sort(w)}, pi(con("a", u, v), pi(sort(w), sort(x)))},
		{tvar(any - 1), []api.Term{tvar(any - 1)}, pi(tvar(any-1), tvar(any))},
		{lam(a, tvar(any)), []api.Term{a, b}, pi(a, pi(b, lam(a, tvar(any+2))))},
	} {
		got, ok := term.Arrow(c.to, c.from...)
		if !ok || !equal(got, c.want) {
			t.Errorf("Arrow to %s from %d is %s, %v, not %s", show(c.to), len(c.from), show(got), ok, show(c.want))
		}
	}
}

func TestArrowOfMany(t *testing.T) {
	dice := rand.New(rand.NewSource(6))
	for range 2000 {
		list := make([]api.Term, 1+dice.Intn(6))
		for i := range list {
			list[i] = thrown(dice, 1+dice.Intn(20))
		}
		last := len(list) - 1
		want := lifted(list[last], last, 0)
		for i := last - 1; i >= 0; i-- {
			want = pi(lifted(list[i], i, 0), want)
		}
		if got, ok := term.Arrow(list[last], list[:last]...); !ok || !equal(got, want) {
			t.Fatalf("Arrow to %s from %d is %s, %v", show(list[last]), last, show(got), ok)
		}
	}
}

func TestArrowOfTooManyNodes(t *testing.T) {
	some := slices.Repeat([]api.Term{a}, 1000)
	for _, c := range []struct {
		to   api.Term
		from []api.Term
		size int
	}{
		{ofNodes(2000), nil, 2000},
		{ofNodes(1998), some[:1], 2000},
		{ofNodes(1999), some[:1], 2001},
		{ofNodes(2000), some[:1], 2002},
		{a, []api.Term{ofNodes(1998)}, 2000},
		{a, []api.Term{ofNodes(1999)}, 2001},
		{ofNodes(1000), []api.Term{ofNodes(999)}, 2000},
		{ofNodes(1000), []api.Term{ofNodes(1000)}, 2001},
		{ofNodes(1996), some[:2], 2000},
		{ofNodes(1997), some[:2], 2001},
		{a, some[:999], 1999},
		{sort(u), some[:999], 2000},
		{sort(succ(u)), some[:999], 2001},
		{a, some, 2001},
		{a, slices.Repeat(some, 1000), 2000001},
		{ofNodes(2000), []api.Term{ofNodes(2000), ofNodes(2000)}, 6002},
	} {
		got, ok := term.Arrow(c.to, c.from...)
		if ok != (c.size <= 2000) || !ok && !isNothing(got) || ok && size(got) != c.size {
			t.Errorf("Arrow of %d nodes is %s, %v", c.size, show(got), ok)
		}
	}
}

func TestArrowOfWrong(t *testing.T) {
	for _, s := range wrong() {
		for i, call := range []func() (api.Term, bool){
			func() (api.Term, bool) { return term.Arrow(s) },
			func() (api.Term, bool) { return term.Arrow(s, a) },
			func() (api.Term, bool) { return term.Arrow(s, a, b) },
			func() (api.Term, bool) { return term.Arrow(a, s) },
			func() (api.Term, bool) { return term.Arrow(a, s, b) },
			func() (api.Term, bool) { return term.Arrow(a, b, s) },
		} {
			if got, ok := call(); ok || !isNothing(got) {
				t.Errorf("Arrow %d with %s is %s, %v", i, show(s), show(got), ok)
			}
		}
	}
}
