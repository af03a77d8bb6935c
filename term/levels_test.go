package term_test

import (
	"math/rand"
	"slices"
	"testing"

	"scholium/api"
	"scholium/level"
	"scholium/term"
)

// P4.2.

func TestLevelsOrdinary(t *testing.T) {
	for _, c := range []struct {
		t    api.Term
		by   []api.Level
		want api.Term
	}{
		{tvar(3), nil, tvar(3)},
		{tvar(any - 1), nil, tvar(any - 1)},
		{a, nil, a},
		{a, []api.Level{u, v}, a},
		{sort(num(2)), nil, sort(num(2))},
		{sort(num(2)), []api.Level{v}, sort(num(2))},
		{sort(u), []api.Level{v}, sort(v)},
		{sort(u), []api.Level{num(3)}, sort(num(3))},
		{sort(v), []api.Level{num(3), x}, sort(x)},
		{sort(imax(u, v)), []api.Level{succ(v), u}, sort(imax(succ(v), u))},
		{con("a", u, v), []api.Level{v, u}, con("a", v, u)},
		{con("a", x, w, v, u), []api.Level{num(0), num(1), num(2), num(3)}, con("a", num(3), num(2), num(1), num(0))},
		{app(sort(u), con("a", u)), []api.Level{most(u, v)}, app(sort(most(u, v)), con("a", most(u, v)))},
		{lam(sort(u), tvar(0)), []api.Level{num(1)}, lam(sort(num(1)), tvar(0))},
		{pi(sort(u), sort(succ(u))), []api.Level{num(1)}, pi(sort(num(1)), sort(succ(num(1))))},
		{let(sort(u), sort(v), sort(most(u, v))), []api.Level{w, x}, let(sort(w), sort(x), sort(most(w, x)))},
		{lam(sort(v), pi(tvar(5), app(tvar(1), con("b", num(1), v)))), []api.Level{num(7), imax(u, u)}, lam(sort(imax(u, u)), pi(tvar(5), app(tvar(1), con("b", num(1), imax(u, u)))))},
	} {
		got, ok := term.Levels(c.t, c.by)
		if !ok || !equal(got, c.want) {
			t.Errorf("Levels(%s) is %s, %v, not %s", show(c.t), show(got), ok, show(c.want))
		}
	}
}

func TestLevelsOfTooManyNodes(t *testing.T) {
	for _, c := range []struct {
		t    api.Term
		by   []api.Level
		size int
	}{
		{ofNodes(1999), nil, 1999},
		{ofNodes(2000), []api.Level{num(0)}, 2000},
		{ofNodes(2000), []api.Level{succ(num(0))}, 2001},
		{ofNodes(1998), []api.Level{ofLevel(3)}, 2000},
		{ofNodes(1998), []api.Level{ofLevel(4)}, 2001},
		{ofNodes(1998), []api.Level{ofLevel(64)}, 2061},
		{app(ofNodes(1900), con("a", u, u)), []api.Level{ofLevel(48)}, 1998 + 47},
		{app(ofNodes(1900), con("a", v, v)), []api.Level{num(0), ofLevel(49)}, 2000},
		{app(ofNodes(1900), con("a", v, v)), []api.Level{num(0), ofLevel(50)}, 2002},
		{app(ofNodes(1901), con("a", v, v)), []api.Level{num(0), ofLevel(49)}, 2001},
	} {
		got, ok := term.Levels(c.t, c.by)
		if ok != (c.size <= 2000) || !ok && !isNothing(got) || ok && size(got) != c.size {
			t.Errorf("Levels of %d nodes is %s, %v", c.size, show(got), ok)
		}
	}
}

func TestLevelsOfWrong(t *testing.T) {
	for _, c := range []struct {
		t  api.Term
		by []api.Level
	}{
		// Not right for so many parameters.
		{sort(u), nil},
		{sort(v), []api.Level{u}},
		{con("a", u, v), []api.Level{u}},
		{app(sort(u), sort(x)), []api.Level{u, u, u}},
		{lam(a, sort(u)), nil},
		{sort(num(0)), []api.Level{u, u, u, u, u}},
		{sort(u), []api.Level{u, u, u, u, u}},
		{con("a", u), slices.Repeat([]api.Level{u}, 1000)},
		{sort(param(4)), []api.Level{u, u, u, u, u}},
		{tvar(any), nil},
		{tvar(-1), nil},
		{api.Term{}, nil},
		{app(sort(u), con("A")), []api.Level{u}},
		{ofNodes(2001), []api.Level{u}},
		// An Inst fails.
		{sort(u), []api.Level{{}}},
		{sort(u), []api.Level{num(101)}},
		{sort(u), []api.Level{param(4)}},
		{sort(u), []api.Level{num(0), num(-1)}},
		{sort(num(0)), []api.Level{num(-1)}},
		{con("a", num(0)), []api.Level{u, v, w, ofLevel(65)}},
		{sort(u), []api.Level{ofLevel(65)}},
		{sort(succ(u)), []api.Level{ofLevel(64)}},
		{con("a", u, succ(u)), []api.Level{ofLevel(64)}},
		{con("a", succ(u), u), []api.Level{ofLevel(64)}},
		{app(sort(succ(u)), sort(u)), []api.Level{ofLevel(64)}},
		{app(sort(u), sort(succ(u))), []api.Level{ofLevel(64)}},
		{let(a, b, lam(sort(most(u, v)), c)), []api.Level{ofLevel(32), ofLevel(32)}},
	} {
		if got, ok := term.Levels(c.t, c.by); ok || !isNothing(got) {
			t.Errorf("Levels(%s) by %d is %s, %v", show(c.t), len(c.by), show(got), ok)
		}
	}
	for _, s := range wrong() {
		for _, by := range [][]api.Level{nil, {u}, {u, u, u, u}, {u, u, u, u, u}} {
			if got, ok := term.Levels(s, by); ok || !isNothing(got) {
				t.Errorf("Levels(%s) is %s, %v", show(s), show(got), ok)
			}
		}
	}
}

// TestLevelsOfNone: where there are no levels, no Inst is asked, and none fails.
func TestLevelsOfNone(t *testing.T) {
	for _, by := range [][]api.Level{{num(-1)}, {{}}, {u, v, w, param(4)}, {u, v, w, x, u}, {ofLevel(65)}} {
		for _, s := range []api.Term{tvar(2), a, lam(a, app(tvar(0), tvar(4))), let(a, b, c)} {
			if got, ok := term.Levels(s, by); !ok || !equal(got, s) {
				t.Errorf("Levels(%s) by %d is %s, %v", show(s), len(by), show(got), ok)
			}
		}
	}
}

// TestLevelsNodeByNode: of each node the levels have layer 3's Inst, and all else is as it was.
func TestLevelsNodeByNode(t *testing.T) {
	dice := rand.New(rand.NewSource(4))
	kept := 0
	for range 3000 {
		s := thrown(dice, 1+dice.Intn(60))
		by := make([]api.Level, dice.Intn(5))
		for i := range by {
			by[i] = thrownLevel(dice, 5)
		}
		got, ok := term.Levels(s, by)
		if ok != rightBy(s, len(by), any) {
			t.Fatalf("Levels(%s) by %d is %v", show(s), len(by), ok)
		}
		if ok && !isPut(got, s, by) {
			t.Fatalf("Levels(%s) is %s", show(s), show(got))
		}
		if ok && len(by) > 0 {
			kept++
		}
	}
	if kept < 500 {
		t.Errorf("only %d of the dice's were right", kept)
	}
}

func isPut(got, s api.Term, by []api.Level) bool {
	if got.Kind != s.Kind || got.N != s.N || got.Name != s.Name || len(got.Levels) != len(s.Levels) || len(got.Args) != len(s.Args) {
		return false
	}
	for i, l := range s.Levels {
		want, ok := level.Inst(l, by)
		if !ok || !equalLevels(got.Levels[i], want) {
			return false
		}
	}
	for i, arg := range s.Args {
		if !isPut(got.Args[i], arg, by) {
			return false
		}
	}
	return true
}
