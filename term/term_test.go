package term_test

import (
	"math"
	"math/rand"
	"slices"
	"strings"
	"testing"

	"scholium/api"
	"scholium/term"
)

// P4.1, Right.

func TestRightOrdinary(t *testing.T) {
	long := strings.Repeat("a", 40)
	for _, c := range []struct {
		t    api.Term
		n, k int // it is right from so many parameters and variables on
	}{
		{tvar(0), 0, 1},
		{tvar(1), 0, 2},
		{tvar(1 << 40), 0, 1<<40 + 1},
		{tvar(any - 1), 0, any},
		{sort(num(0)), 0, 0},
		{sort(num(100)), 0, 0},
		{sort(u), 1, 0},
		{sort(most(u, succ(x))), 4, 0},
		{sort(ofLevel(64)), 0, 0},
		{a, 0, 0},
		{con("nat.add_1"), 0, 0},
		{con(long), 0, 0},
		{con("a", u), 1, 0},
		{con("a", num(1), v), 2, 0},
		{con("a", u, u, u, w), 3, 0},
		{con("a", x, u, v, w), 4, 0},
		{con("a", num(1), num(2), num(3), num(4)), 0, 0},
		{app(a, b), 0, 0},
		{app(tvar(0), tvar(3)), 0, 4},
		{app(tvar(3), tvar(0)), 0, 4},
		{lam(a, tvar(0)), 0, 0},
		{lam(tvar(0), tvar(0)), 0, 1},
		{lam(a, tvar(1)), 0, 1},
		{pi(a, tvar(0)), 0, 0},
		{pi(tvar(0), tvar(0)), 0, 1},
		{pi(a, tvar(1)), 0, 1},
		{let(a, b, tvar(0)), 0, 0},
		{let(a, b, tvar(1)), 0, 1},
		{let(tvar(0), b, tvar(0)), 0, 1},
		{let(a, tvar(0), tvar(0)), 0, 1},
		{lam(sort(u), lam(tvar(0), tvar(0))), 1, 0},
		{pi(sort(v), pi(tvar(0), tvar(1))), 2, 0},
		{pi(sort(v), pi(tvar(0), tvar(2))), 2, 1},
		{lam(a, lam(tvar(1), tvar(0))), 0, 1},
		{lam(a, app(lam(b, tvar(1)), tvar(1))), 0, 1},
		{let(a, lam(b, tvar(1)), lam(b, let(a, tvar(1), tvar(2)))), 0, 1},
		{lam(a, tvar(any)), 0, any},
		{lam(a, pi(a, let(a, b, tvar(any+2)))), 0, any},
		{ofNodes(1999), 0, 1},
		{ofNodes(2000), 1, 0},
		{chain(1999), 0, 0},
		{app(ofNodes(1949), sort(ofLevel(49))), 0, 1},
	} {
		for n := range 5 {
			for _, k := range []int{0, 1, 2, 3, 4, 5, 100, c.k - 1, c.k, c.k + 1, any - 1, any, any + 1, 1 << 60, math.MaxInt} {
				if got, want := term.Right(c.t, n, k), n >= c.n && k >= c.k; got != want {
					t.Errorf("Right(%s, %d, %d) is %v", show(c.t), n, k, got)
				}
			}
		}
		for _, k := range []int{-1, -2, math.MinInt, math.MinInt + 1} {
			if term.Right(c.t, 4, k) {
				t.Errorf("Right(%s, 4, %d) is true", show(c.t), k)
			}
		}
	}
}

// TestRightParams: of so many parameters no level is right; a term without levels asks for none.
func TestRightParams(t *testing.T) {
	for _, n := range []int{-1, -2, 5, 6, 1 << 32, math.MinInt, math.MaxInt} {
		for _, s := range []api.Term{sort(num(0)), sort(u), con("a", num(1)), con("a", u), app(a, sort(num(1))), lam(con("b", num(0)), tvar(0))} {
			if term.Right(s, n, any) {
				t.Errorf("Right(%s, %d) is true", show(s), n)
			}
		}
		for _, s := range []api.Term{tvar(0), a, lam(a, tvar(0)), let(a, b, app(tvar(0), tvar(1)))} {
			if !term.Right(s, n, any) {
				t.Errorf("Right(%s, %d) is false", show(s), n)
			}
		}
	}
}

func TestRightVariables(t *testing.T) {
	for _, k := range []int{any, any + 1, any + 2, 1 << 51, 1 << 62, math.MaxInt - 1, math.MaxInt} {
		for n := any - 3; n < any+4; n++ {
			s := tvar(n)
			for deep := range 4 {
				if got, want := term.Right(s, 0, k), n < any+deep; got != want {
					t.Errorf("Right of the variable 2^50%+d in %d binders is %v for %d", n-any, deep, got, k)
				}
				s = of([]int{api.TLam, api.TPi}[deep%2], a, s)
			}
		}
	}
	for n := -5; n < 20; n++ {
		for k := -5; k < 20; k++ {
			for deep, s := range []api.Term{tvar(n), lam(a, tvar(n)), pi(a, let(a, b, tvar(n)))} {
				if got, want := term.Right(s, 0, k), k >= 0 && n >= 0 && n < k+deep; got != want {
					t.Errorf("Right(%s, 0, %d) is %v", show(s), k, got)
				}
			}
		}
	}
}

func TestRightOfWrong(t *testing.T) {
	for _, s := range wrong() {
		for n := -1; n < 6; n++ {
			for _, k := range []int{-1, 0, 1, 5, any, math.MaxInt} {
				if term.Right(s, n, k) {
					t.Errorf("Right(%s, %d, %d) is true", show(s), n, k)
				}
			}
		}
	}
}

func TestRightOfSmall(t *testing.T) {
	for _, s := range small(5) {
		for n := range 4 {
			for k := -1; k < 5; k++ {
				if got := term.Right(s, n, k); got != rightBy(s, n, k) {
					t.Fatalf("Right(%s, %d, %d) is %v", show(s), n, k, got)
				}
			}
		}
	}
	dice := rand.New(rand.NewSource(1))
	for range 3000 {
		s := thrown(dice, 1+dice.Intn(60))
		if !term.Right(s, 4, 3) {
			t.Fatalf("Right(%s, 4, 3) is false", show(s))
		}
		for range 5 {
			n, k := dice.Intn(6), dice.Intn(5)-1
			if got := term.Right(s, n, k); got != rightBy(s, n, k) {
				t.Fatalf("Right(%s, %d, %d) is %v", show(s), n, k, got)
			}
		}
	}
}

// P4.1, Nodes.

func TestNodes(t *testing.T) {
	for _, c := range []struct {
		t    api.Term
		want int
	}{
		{api.Term{}, 1},
		{tvar(5), 1},
		{a, 1},
		{sort(u), 2},
		{sort(most(u, succ(v))), 5},
		{con("a", u, v), 3},
		{con("a", succ(u), v), 4},
		{app(a, b), 3},
		{lam(a, b), 3},
		{pi(sort(u), b), 4},
		{let(a, b, c), 4},
		{ofNodes(1999), 1999},
		{ofNodes(2000), 2000},
		{ofNodes(2001), 2001},
		{ofNodes(2002), 2001},
		{ofNodes(9000), 2001},
		{chain(1999), 1999},
		{chain(2001), 2001},
		{chain(2003), 2001},
		{app(ofNodes(1935), sort(ofLevel(63))), 2000},
		{app(ofNodes(1935), sort(ofLevel(64))), 2001},
		{app(ofNodes(1936), sort(ofLevel(64))), 2001},
		// Of wrong ones, too, and of wrong levels.
		{sort(ofLevel(65)), 66},
		{sort(ofLevel(66)), 67},
		{sort(ofLevel(1999)), 2000},
		{sort(ofLevel(2000)), 2001},
		{sort(ofLevel(2001)), 2001},
		{con("", ofLevel(1000), ofLevel(999)), 2000},
		{con("", ofLevel(1000), ofLevel(1000)), 2001},
		{api.Term{Kind: api.TVar, Levels: []api.Level{{}, {Kind: 7, Args: make([]api.Level, 3)}}, Args: []api.Term{a, sort(u)}}, 9},
		{of(api.TApp, make([]api.Term, 1999)...), 2000},
		{of(api.TApp, make([]api.Term, 2000)...), 2001},
		{of(api.TApp, make([]api.Term, 1<<20)...), 2001},
		{con("a", make([]api.Level, 1999)...), 2000},
		{con("a", make([]api.Level, 2000)...), 2001},
		{con("a", make([]api.Level, 1<<20)...), 2001},
	} {
		if got := term.Nodes(c.t); got != c.want {
			t.Errorf("Nodes(%s) is %d, not %d", show(c.t), got, c.want)
		}
	}
	for _, s := range slices.Concat(wrong(), small(5), great()) {
		if got := term.Nodes(s); got != min(size(s), 2001) {
			t.Errorf("Nodes(%s) is %d", show(s), got)
		}
	}
}

// P4.1, Loose.

func TestLoose(t *testing.T) {
	for _, c := range []struct {
		t    api.Term
		want int
	}{
		{a, 0},
		{sort(u), 0},
		{tvar(0), 1},
		{tvar(7), 8},
		{tvar(1 << 40), 1<<40 + 1},
		{tvar(any - 1), any},
		{app(tvar(2), tvar(5)), 6},
		{app(tvar(5), tvar(2)), 6},
		{lam(a, tvar(0)), 0},
		{lam(a, tvar(1)), 1},
		{lam(tvar(0), tvar(0)), 1},
		{lam(tvar(3), tvar(1)), 4},
		{pi(a, tvar(0)), 0},
		{pi(a, tvar(4)), 4},
		{pi(tvar(4), tvar(4)), 5},
		{let(a, b, tvar(0)), 0},
		{let(a, b, tvar(3)), 3},
		{let(tvar(2), b, tvar(3)), 3},
		{let(a, tvar(3), tvar(3)), 4},
		{lam(a, lam(a, tvar(1))), 0},
		{lam(a, lam(a, tvar(2))), 1},
		{lam(a, lam(tvar(1), tvar(0))), 1},
		{lam(a, tvar(any)), any},
		{pi(a, lam(a, tvar(any+1))), any},
		{ofNodes(1999), 1},
		{ofNodes(2000), 0},
		{chain(1999), 0},
		{app(tvar(9), con("a", x)), 10},
	} {
		if got := term.Loose(c.t); got != c.want {
			t.Errorf("Loose(%s) is %d, not %d", show(c.t), got, c.want)
		}
	}
	for _, s := range append(wrong(), app(tvar(1), tvar(any)), ofNodes(2001), app(tvar(3), sort(param(4))), lam(tvar(2), tvar(-1))) {
		if got := term.Loose(s); got != 0 {
			t.Errorf("Loose(%s) is %d", show(s), got)
		}
	}
}

// TestLooseIsTheLeast: a term is right for so many variables, and for no fewer.
func TestLooseIsTheLeast(t *testing.T) {
	dice := rand.New(rand.NewSource(2))
	list := small(5)
	for range 3000 {
		list = append(list, thrown(dice, 1+dice.Intn(60)))
	}
	for _, s := range list {
		k := term.Loose(s)
		if !rightBy(s, 4, k) || k > 0 && rightBy(s, 4, k-1) {
			t.Fatalf("Loose(%s) is %d", show(s), k)
		}
	}
}

// P4.1, Same.

func TestSameOfSmall(t *testing.T) {
	list := small(4)
	for i, s := range list {
		for j, o := range list {
			if got := term.Same(s, o); got != (i == j) {
				t.Fatalf("Same(%s, %s) is %v", show(s), show(o), got)
			}
		}
	}
}

func TestSameOfAlike(t *testing.T) {
	for _, s := range slices.Concat(wrong(), small(5), great()) {
		if !term.Same(s, clone(s)) {
			t.Errorf("Same(%s, itself) is false", show(s))
		}
		for i, o := range besides(s) {
			if term.Same(s, o) || term.Same(o, s) {
				t.Errorf("Same(%s, one beside it, %d) is true", show(s), i)
			}
		}
	}
	for _, c := range [][2]api.Term{
		{sort(most(u, v)), sort(most(v, u))},
		{sort(most(u, u)), sort(u)},
		{sort(imax(u, num(0))), sort(num(0))},
		{sort(succ(num(1))), sort(num(2))},
		{con("a", u, v), con("a", v, u)},
		{con("a", u), con("a", u, u)},
		{con("a"), con("a", num(0))},
		{con("a"), con("A")},
		{con("a"), con("a.b")},
		{con("a"), con("")},
		{con("a\xff"), con("a\xfe")},
		{lam(a, b), pi(a, b)},
		{app(app(a, b), c), app(a, app(b, c))},
		{lam(a, lam(b, c)), lam(b, lam(a, c))},
		{of(api.TApp, a, b), of(api.TApp, a, b, c)},
		{of(api.TApp), of(api.TApp, api.Term{})},
		{api.Term{Kind: 9, Levels: []api.Level{{}}}, api.Term{Kind: 9}},
		{lam(a, app(b, tvar(0))), b},
		{app(lam(a, tvar(0)), b), b},
		{chain(3001), chain(3003)},
		{ofNodes(3001), replaced(ofNodes(3001), tvar(1))},
	} {
		if term.Same(c[0], c[1]) || term.Same(c[1], c[0]) {
			t.Errorf("Same(%s, %s) is true", show(c[0]), show(c[1]))
		}
	}
	// A nil list and an empty one are the same.
	empty := api.Term{Kind: api.TConst, Name: "a", Levels: []api.Level{}, Args: []api.Term{}}
	one := sort(api.Level{Kind: api.LNum, Args: []api.Level{}})
	if !term.Same(empty, a) || !term.Same(a, empty) || !term.Same(one, sort(num(0))) || !term.Same(sort(num(0)), one) {
		t.Error("an empty list isn't the same as a nil one")
	}
}

// besides are terms that differ from one in one thing of its outermost node, or of its last Arg's.
func besides(s api.Term) []api.Term {
	var l []api.Term
	beside := func(change func(t *api.Term)) {
		t := clone(s)
		change(&t)
		l = append(l, t)
		if last := len(s.Args) - 1; last >= 0 {
			t = clone(s)
			change(&t.Args[last])
			l = append(l, t)
		}
	}
	beside(func(t *api.Term) { t.Kind++ })
	beside(func(t *api.Term) { t.N++ })
	beside(func(t *api.Term) { t.Name += "a" })
	beside(func(t *api.Term) { t.Levels = append(t.Levels, u) })
	beside(func(t *api.Term) { t.Levels = append([]api.Level{u}, t.Levels...) })
	beside(func(t *api.Term) { t.Args = append(t.Args, a) })
	beside(func(t *api.Term) { t.Args = append([]api.Term{a}, t.Args...) })
	for i := range s.Levels[:min(len(s.Levels), 3)] {
		for _, change := range []func(l *api.Level){
			func(l *api.Level) { l.Kind++ },
			func(l *api.Level) { l.N++ },
			func(l *api.Level) { l.Args = append(l.Args, u) },
		} {
			t := clone(s)
			change(&t.Levels[i])
			l = append(l, t)
		}
	}
	return l
}

// P4.1, Consts.

func TestConsts(t *testing.T) {
	for _, c := range []struct {
		t    api.Term
		want []string
	}{
		{tvar(0), nil},
		{sort(u), nil},
		{lam(sort(u), tvar(0)), nil},
		{a, []string{"a"}},
		{con("a", u, v), []string{"a"}},
		{app(a, a), []string{"a"}},
		{app(a, b), []string{"a", "b"}},
		{app(b, a), []string{"a", "b"}},
		{app(app(b, c), app(a, b)), []string{"a", "b", "c"}},
		{app(con("a", u), con("a", v)), []string{"a"}},
		{lam(c, a), []string{"a", "c"}},
		{pi(c, lam(b, app(tvar(0), a))), []string{"a", "b", "c"}},
		{let(c, b, a), []string{"a", "b", "c"}},
		{let(a, b, c), []string{"a", "b", "c"}},
		{app(con("n.s"), app(con("n_s"), app(con("n"), app(con("n1"), con("na"))))), []string{"n", "n.s", "n1", "n_s", "na"}},
		{ofNodes(2000), []string{"a"}},
		{lam(a, tvar(any)), []string{"a"}},
		{con("a", x), []string{"a"}},
		{ofNodes(2001), nil},
		{app(a, tvar(any)), nil},
		{app(a, sort(param(4))), nil},
		{con("A"), nil},
		{app(a, con("")), nil},
		{of(api.TApp, a, b, c), nil},
	} {
		if got := term.Consts(c.t); !slices.Equal(got, c.want) {
			t.Errorf("Consts(%s) is %v, not %v", show(c.t), got, c.want)
		}
	}
	for _, s := range wrong() {
		if got := term.Consts(s); len(got) != 0 {
			t.Errorf("Consts(%s) is %v", show(s), got)
		}
	}
}

func TestConstsOfMany(t *testing.T) {
	dice := rand.New(rand.NewSource(3))
	for range 2000 {
		s := thrown(dice, 1+dice.Intn(60))
		if got := term.Consts(s); !slices.Equal(got, constsBy(s)) {
			t.Fatalf("Consts(%s) is %v", show(s), got)
		}
	}
}

// constsBy asks of each name that the dice may throw whether it stands in the term.
func constsBy(s api.Term) []string {
	var l []string
	for _, name := range []string{"a", "b", "c", "n", "n.s", "n.z"} {
		if stands(s, name) {
			l = append(l, name)
		}
	}
	return l
}

func stands(s api.Term, name string) bool {
	return s.Kind == api.TConst && s.Name == name || slices.ContainsFunc(s.Args, func(arg api.Term) bool { return stands(arg, name) })
}
