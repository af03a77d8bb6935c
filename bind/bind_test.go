package bind_test

import (
	"fmt"
	"math"
	"math/rand"
	"slices"
	"strings"
	"testing"

	"scholium/api"
	"scholium/bind"
	"scholium/level"
	"scholium/term"
)

// answer is what a call answers that answers a bool beside a term.
type answer struct {
	t  api.Term
	ok bool
}

func ask(t api.Term, ok bool) answer { return answer{t, ok} }

// isAs holds an answer against a term and true.
func isAs(t *testing.T, got answer, want api.Term, what string, of ...any) {
	t.Helper()
	if !got.ok || !term.Same(got.t, want) {
		t.Fatalf("%s is %s, %v; not %s", told(what, of), show(got.t), got.ok, show(want))
	}
}

// isNone holds an answer against noughts and false.
func isNone(t *testing.T, got answer, what string, of ...any) {
	t.Helper()
	if got.ok || !isNothing(got.t) {
		t.Fatalf("%s is %s, %v", told(what, of), show(got.t), got.ok)
	}
}

// told is a call as text.
func told(what string, of []any) string {
	var parts []string
	for _, one := range of {
		switch x := one.(type) {
		case api.Term:
			parts = append(parts, show(x))
		case []api.Term:
			for _, t := range x {
				parts = append(parts, show(t))
			}
		default:
			parts = append(parts, fmt.Sprint(x))
		}
	}
	return what + "(" + strings.Join(parts, ", ") + ")"
}

// several are all small terms, and some that the dice make.
func several(seed int64) []api.Term {
	l := small(5)
	dice := rand.New(rand.NewSource(seed))
	for range 3000 {
		l = append(l, thrown(dice, 1+dice.Intn(60), 4))
	}
	return l
}

// farNumbers are out of the bounds of what variables are raised or lowered by.
var farNumbers = []int{-1, -2, -1 << 20, math.MinInt, math.MinInt + 1, 1<<20 + 1, 1<<20 + 2, 1 << 21, 1 << 32, 1<<32 + 1, 1 << 50, math.MaxInt - 1, math.MaxInt}

// P6.1, Lift.

func TestLift(t *testing.T) {
	for _, c := range []struct {
		t        api.Term
		by, from int
		want     api.Term
	}{
		{tvar(0), 0, 0, tvar(0)},
		{tvar(0), 1, 0, tvar(1)},
		{tvar(5), 3, 0, tvar(8)},
		{tvar(5), 3, 5, tvar(8)},
		{tvar(5), 3, 6, tvar(5)},
		{tvar(5), 3, 4, tvar(8)},
		{a, 3, 0, a},
		{con("a", u, v), 3, 0, con("a", u, v)},
		{term.Sort(level.Max(u, v)), 3, 0, term.Sort(level.Max(u, v))},
		{app(tvar(0), tvar(1)), 2, 0, app(tvar(2), tvar(3))},
		{app(tvar(0), tvar(1)), 2, 1, app(tvar(0), tvar(3))},
		{lam(tvar(0), tvar(0)), 2, 0, lam(tvar(2), tvar(0))},
		{lam(tvar(0), tvar(1)), 2, 0, lam(tvar(2), tvar(3))},
		{lam(tvar(0), tvar(1)), 2, 1, lam(tvar(0), tvar(1))},
		{lam(tvar(1), tvar(2)), 2, 1, lam(tvar(3), tvar(4))},
		{pi(tvar(0), tvar(0)), 2, 0, pi(tvar(2), tvar(0))},
		{pi(tvar(1), tvar(1)), 2, 0, pi(tvar(3), tvar(3))},
		{let(tvar(0), tvar(0), tvar(0)), 1, 0, let(tvar(1), tvar(1), tvar(0))},
		{let(tvar(1), tvar(1), tvar(1)), 1, 1, let(tvar(2), tvar(2), tvar(1))},
		{lam(a, pi(b, let(a, b, app(tvar(2), tvar(3), tvar(4))))), 7, 1, lam(a, pi(b, let(a, b, app(tvar(2), tvar(3), tvar(11)))))},
		{app(lam(a, tvar(1)), tvar(1)), 1, 1, app(lam(a, tvar(1)), tvar(2))},
		// The greatest numbers.
		{tvar(0), 1 << 20, 0, tvar(1 << 20)},
		{app(tvar(1<<20), tvar(1<<20-1)), 1, 1 << 20, app(tvar(1<<20+1), tvar(1<<20-1))},
		{lam(a, app(tvar(1<<20+1), tvar(1<<20))), 1 << 20, 1 << 20, lam(a, app(tvar(1<<21+1), tvar(1<<20)))},
		{tvar(anyNumber - 2), 1, 0, tvar(anyNumber - 1)},
		{tvar(anyNumber - 1), 0, 0, tvar(anyNumber - 1)},
		{lam(a, tvar(anyNumber)), 0, 1 << 20, lam(a, tvar(anyNumber))},
		{lam(a, tvar(anyNumber-1)), 1, 0, lam(a, tvar(anyNumber))},
	} {
		isAs(t, ask(bind.Lift(c.t, c.by, c.from)), c.want, "Lift", c.t, c.by, c.from)
	}
}

// TestLiftBeyond: it is what is handed in that has to be right.
func TestLiftBeyond(t *testing.T) {
	isAs(t, ask(bind.Lift(tvar(anyNumber-1), 1, 0)), tvar(anyNumber), "Lift", anyNumber-1, 1, 0)
	isAs(t, ask(bind.Lift(tvar(anyNumber-1), 1<<20, 1<<20)), tvar(anyNumber-1+1<<20), "Lift", anyNumber-1, 1<<20, 1<<20)
	isAs(t, ask(bind.Abstract(app(tvar(anyNumber-1), a), "a")), app(tvar(anyNumber), tvar(0)), "Abstract", anyNumber-1)
}

func TestLiftByAnotherWay(t *testing.T) {
	for _, s := range several(1) {
		for _, by := range []int{0, 1, 3, 1 << 20} {
			for _, from := range []int{0, 1, 2, 4, 1 << 20} {
				isAs(t, ask(bind.Lift(s, by, from)), liftBy(s, by, from), "Lift", s, by, from)
			}
		}
	}
}

func TestLiftOfWrong(t *testing.T) {
	for _, far := range farNumbers {
		for _, s := range []api.Term{tvar(0), a, lam(a, tvar(1))} {
			isNone(t, ask(bind.Lift(s, far, 0)), "Lift", s, far, 0)
			isNone(t, ask(bind.Lift(s, 0, far)), "Lift", s, 0, far)
			isNone(t, ask(bind.Lift(s, far, far)), "Lift", s, far, far)
		}
	}
	for _, s := range slices.Concat(wrong(), endless()) {
		isNone(t, ask(bind.Lift(s, 0, 0)), "Lift of a wrong one")
		isNone(t, ask(bind.Lift(s, 1, 1)), "Lift of a wrong one")
		isNone(t, ask(bind.Lift(s, -1, 1)), "Lift of a wrong one")
	}
}

// P6.1, Lower.

func TestLower(t *testing.T) {
	for _, c := range []struct {
		t    api.Term
		by   int
		want api.Term // noughts, if there is none
	}{
		{tvar(0), 0, tvar(0)},
		{tvar(0), 1, api.Term{}},
		{tvar(1), 1, tvar(0)},
		{tvar(5), 3, tvar(2)},
		{tvar(5), 5, tvar(0)},
		{tvar(5), 6, api.Term{}},
		{a, 3, a},
		{con("a", u, v), 1 << 20, con("a", u, v)},
		{app(tvar(1), tvar(2)), 1, app(tvar(0), tvar(1))},
		{app(tvar(2), tvar(1)), 2, api.Term{}},
		{app(tvar(1), tvar(2)), 2, api.Term{}},
		{lam(tvar(1), tvar(0)), 1, lam(tvar(0), tvar(0))},
		{lam(tvar(1), tvar(1)), 1, api.Term{}},
		{lam(tvar(0), tvar(0)), 1, api.Term{}},
		{lam(tvar(1), tvar(2)), 1, lam(tvar(0), tvar(1))},
		{pi(a, tvar(0)), 5, pi(a, tvar(0))},
		{pi(a, pi(b, app(tvar(0), tvar(1), tvar(4)))), 2, pi(a, pi(b, app(tvar(0), tvar(1), tvar(2))))},
		{pi(a, pi(b, app(tvar(0), tvar(1), tvar(3)))), 2, api.Term{}},
		{let(tvar(1), tvar(1), tvar(0)), 1, let(tvar(0), tvar(0), tvar(0))},
		{let(tvar(1), tvar(1), tvar(1)), 1, api.Term{}},
		{let(tvar(1), tvar(0), tvar(0)), 1, api.Term{}},
		{let(tvar(0), tvar(1), tvar(0)), 1, api.Term{}},
		// The greatest numbers.
		{tvar(1 << 20), 1 << 20, tvar(0)},
		{tvar(1<<20 - 1), 1 << 20, api.Term{}},
		{tvar(anyNumber - 1), 1 << 20, tvar(anyNumber - 1 - 1<<20)},
		{lam(a, tvar(anyNumber)), 1 << 20, lam(a, tvar(anyNumber-1<<20))},
	} {
		got := ask(bind.Lower(c.t, c.by))
		if isNothing(c.want) {
			isNone(t, got, "Lower", c.t, c.by)
		} else {
			isAs(t, got, c.want, "Lower", c.t, c.by)
		}
	}
}

func TestLowerByAnotherWay(t *testing.T) {
	for _, s := range several(2) {
		for _, by := range []int{0, 1, 2, 3, 4, 1 << 20} {
			if want, ok := lowerBy(s, by); ok {
				isAs(t, ask(bind.Lower(s, by)), want, "Lower", s, by)
			} else {
				isNone(t, ask(bind.Lower(s, by)), "Lower", s, by)
			}
			isAs(t, ask(bind.Lower(liftBy(s, by, 0), by)), s, "Lower of what was raised", s, by)
		}
	}
}

func TestLowerOfWrong(t *testing.T) {
	for _, far := range farNumbers {
		for _, s := range []api.Term{tvar(0), tvar(anyNumber - 1), a, lam(a, tvar(1))} {
			isNone(t, ask(bind.Lower(s, far)), "Lower", s, far)
		}
	}
	for _, s := range slices.Concat(wrong(), endless()) {
		isNone(t, ask(bind.Lower(s, 0)), "Lower of a wrong one")
		isNone(t, ask(bind.Lower(s, 1)), "Lower of a wrong one")
	}
}

// P6.2.

func TestInst(t *testing.T) {
	for _, c := range []struct {
		t    api.Term
		args []api.Term
		want api.Term
	}{
		{app(tvar(1), tvar(0)), []api.Term{a, b}, app(a, b)}, // the document's example
		{tvar(0), nil, tvar(0)},
		{lam(a, app(tvar(0), tvar(7))), nil, lam(a, app(tvar(0), tvar(7)))},
		{tvar(0), []api.Term{a}, a},
		{tvar(1), []api.Term{a}, tvar(0)},
		{tvar(0), []api.Term{a, b, c}, c},
		{tvar(1), []api.Term{a, b, c}, b},
		{tvar(2), []api.Term{a, b, c}, a},
		{tvar(3), []api.Term{a, b, c}, tvar(0)},
		{tvar(9), []api.Term{a, b, c}, tvar(6)},
		{con("a", u, v), []api.Term{b}, con("a", u, v)},
		{term.Sort(v), []api.Term{b}, term.Sort(v)},
		{app(tvar(0), tvar(0)), []api.Term{lam(a, tvar(0))}, app(lam(a, tvar(0)), lam(a, tvar(0)))},
		{lam(tvar(0), tvar(0)), []api.Term{a}, lam(a, tvar(0))},
		{lam(tvar(0), tvar(1)), []api.Term{a}, lam(a, a)},
		{lam(tvar(1), tvar(2)), []api.Term{a}, lam(tvar(0), tvar(1))},
		{pi(tvar(0), app(tvar(0), tvar(1), tvar(2))), []api.Term{a}, pi(a, app(tvar(0), a, tvar(1)))},
		{let(tvar(0), tvar(0), app(tvar(0), tvar(1))), []api.Term{a}, let(a, a, app(tvar(0), a))},
		{let(tvar(1), tvar(0), app(tvar(1), tvar(2))), []api.Term{a, b}, let(a, b, app(b, a))},
		// What is put in is raised over the binders there, and only its loose variables are.
		{tvar(0), []api.Term{tvar(4)}, tvar(4)},
		{lam(tvar(0), tvar(1)), []api.Term{tvar(4)}, lam(tvar(4), tvar(5))},
		{lam(a, pi(tvar(1), tvar(2))), []api.Term{tvar(0)}, lam(a, pi(tvar(1), tvar(2)))},
		{lam(a, tvar(1)), []api.Term{lam(tvar(0), app(tvar(0), tvar(1)))}, lam(a, lam(tvar(1), app(tvar(0), tvar(2))))},
		{let(a, b, lam(c, app(tvar(2), tvar(3)))), []api.Term{tvar(0), tvar(1)}, let(a, b, lam(c, app(tvar(3), tvar(2))))},
		// What is put in isn't looked through again.
		{app(tvar(1), tvar(0)), []api.Term{tvar(0), a}, app(tvar(0), a)},
		{app(tvar(1), tvar(0)), []api.Term{a, tvar(1)}, app(a, tvar(1))},
		{app(tvar(0), tvar(1), tvar(2)), []api.Term{tvar(0), tvar(1)}, app(tvar(1), tvar(0), tvar(0))},
		// The greatest numbers.
		{tvar(anyNumber - 1), []api.Term{a, b}, tvar(anyNumber - 3)},
		{tvar(0), []api.Term{tvar(anyNumber - 1)}, tvar(anyNumber - 1)},
		{lam(a, tvar(1)), []api.Term{tvar(anyNumber - 1)}, lam(a, tvar(anyNumber))},
		{lam(a, tvar(anyNumber)), []api.Term{b}, lam(a, tvar(anyNumber-1))},
		{deep(999, tvar(999)), []api.Term{tvar(3)}, deep(999, tvar(1002))},
	} {
		isAs(t, ask(bind.Inst(c.t, c.args...)), c.want, "Inst", c.t, c.args)
	}
}

func TestInstByAnotherWay(t *testing.T) {
	dice := rand.New(rand.NewSource(3))
	for _, s := range several(4) {
		for n := range 6 {
			args := thrownList(dice, n)
			isAs(t, ask(bind.Inst(s, args...)), instBy(s, args...), "Inst", s, args)
		}
	}
}

func TestInstOfMany(t *testing.T) {
	many := make([]api.Term, 1<<17)
	for i := range many {
		many[i] = tvar(i)
	}
	last := len(many) - 1
	isAs(t, ask(bind.Inst(app(tvar(0), tvar(last), tvar(last+1), tvar(7)), many...)), app(tvar(last), tvar(0), tvar(0), tvar(last-7)), "Inst of many")
}

// TestTooManyNodes: an outcome has at most 2,000.
func TestTooManyNodes(t *testing.T) {
	ofApps := func(n int, leaf api.Term) api.Term {
		out := leaf
		for range n {
			out = of(api.TApp, out, leaf)
		}
		return out
	}
	for _, c := range []struct {
		t    api.Term // where the variable 0 and x.y stand, the other one comes
		by   api.Term
		size int
	}{
		{tvar(0), ofNodes(1999), 1999},
		{ofNodes(1999), a, 1999},
		{ofNodes(1999), con("a", u), 2000},
		{ofNodes(1999), con("a", u, v), 2001},
		{ofNodes(1997), app(a, tvar(0)), 1999},
		{ofNodes(1999), app(a, tvar(0)), 2001},
		{ofNodes(1001), ofNodes(999), 1999},
		{ofNodes(1001), app(ofNodes(997), con("a", u)), 2000},
		{ofNodes(1001), ofNodes(1001), 2001},
		{ofNodes(1999), ofNodes(1999), 3997},
		{app(tvar(0), tvar(0)), ofNodes(999), 1999},
		{app(tvar(0), tvar(0)), ofNodes(1001), 2003},
		{lam(tvar(0), tvar(1)), ofNodes(999), 1999},
		{lam(tvar(0), tvar(1)), ofNodes(1001), 2003},
		{let(tvar(0), a, tvar(1)), ofNodes(999), 2000},
		{let(tvar(0), tvar(0), tvar(1)), ofNodes(665), 1996},
		{let(tvar(0), tvar(0), tvar(1)), app(ofNodes(663), con("a", u)), 1999},
		{let(tvar(0), tvar(0), tvar(1)), ofNodes(667), 2002},
		{app(term.Sort(level.Max(u, v)), tvar(0)), ofNodes(1995), 2000},
		{app(con("b", u, v), tvar(0)), ofNodes(1997), 2001},
		{ofApps(999, tvar(0)), a, 1999},
		{ofApps(999, tvar(0)), con("a", u), 2999},
		{ofApps(999, tvar(0)), ofNodes(1999), 999 + 1000*1999},
		{ofApps(499, tvar(0)), app(a, b), 1999},
		{ofApps(500, tvar(0)), app(a, b), 2003},
	} {
		isFine := c.size <= 2000
		got := ask(bind.Inst(c.t, b, c.by))
		if got.ok != isFine || isFine && !term.Same(got.t, instBy(c.t, b, c.by)) || isFine && term.Nodes(got.t) != c.size || !isFine && !isNothing(got.t) {
			t.Errorf("Inst of %d nodes is %s, %v", c.size, show(got.t), got.ok)
		}
		named := instBy(c.t, con("x.y"))
		got = ask(bind.Replace(named, "x.y", c.by))
		if got.ok != isFine || isFine && !term.Same(got.t, replaceBy(named, "x.y", c.by)) || isFine && term.Nodes(got.t) != c.size || !isFine && !isNothing(got.t) {
			t.Errorf("Replace of %d nodes is %s, %v", c.size, show(got.t), got.ok)
		}
	}
	// What is the greatest stays so.
	full := app(ofNodes(1997), con("a", u))
	isAs(t, ask(bind.Lift(full, 1, 0)), liftBy(full, 1, 0), "Lift of 2,000 nodes")
	isAs(t, ask(bind.Lower(liftBy(full, 1, 0), 1)), full, "Lower of 2,000 nodes")
	isAs(t, ask(bind.Abstract(full, "b")), liftBy(full, 1, 0), "Abstract of 2,000 nodes")
	isAs(t, ask(bind.Abstract(full, "a")), abstractBy(full, "a"), "Abstract of 2,000 nodes")
	isAs(t, ask(bind.Replace(full, "b", full)), full, "Replace of 2,000 nodes")
	isAs(t, ask(bind.Inst(deep(999, a), full, full)), deep(999, a), "Inst of 1,999 nodes")
}

// TestTooManyAreNotMade: an outcome that has far too many nodes is given up on the way.
func TestTooManyAreNotMade(t *testing.T) {
	s := replaceBy(ofNodes(1999), "a", tvar(0))
	by := ofNodes(1999)
	if got := testing.AllocsPerRun(3, func() { bind.Inst(s, by) }); got > 20000 {
		t.Errorf("Inst of some 2,000,000 nodes takes %v pieces of memory", got)
	}
}

func TestInstOfWrong(t *testing.T) {
	for _, s := range slices.Concat(wrong(), endless()) {
		isNone(t, ask(bind.Inst(s)), "Inst of a wrong one")
		isNone(t, ask(bind.Inst(s, a)), "Inst of a wrong one")
		isNone(t, ask(bind.Inst(tvar(0), s)), "Inst with a wrong one")
		isNone(t, ask(bind.Inst(tvar(0), a, s)), "Inst with a wrong one")
		isNone(t, ask(bind.Inst(tvar(0), s, a)), "Inst with a wrong one that isn't used")
		isNone(t, ask(bind.Inst(a, a, s, a)), "Inst with a wrong one that isn't used")
	}
}

// P6.3.

func TestUsesAndCount(t *testing.T) {
	for _, c := range []struct {
		t    api.Term
		n    int
		want int
	}{
		{tvar(0), 0, 1},
		{tvar(0), 1, 0},
		{tvar(1), 0, 0},
		{tvar(1), 1, 1},
		{a, 0, 0},
		{con("a", u), 0, 0},
		{term.Sort(u), 0, 0},
		{app(tvar(0), tvar(0)), 0, 2},
		{app(tvar(0), tvar(1), tvar(0)), 0, 2},
		{app(tvar(0), tvar(1), tvar(0)), 1, 1},
		{lam(tvar(0), tvar(0)), 0, 1},
		{lam(tvar(0), tvar(1)), 0, 2},
		{lam(tvar(0), tvar(1)), 1, 0},
		{lam(a, tvar(0)), 0, 0},
		{lam(a, tvar(0)), -1, 0},
		{lam(a, lam(a, app(tvar(0), tvar(1)))), -2, 0},
		{pi(tvar(2), tvar(3)), 2, 2},
		{let(tvar(0), tvar(0), tvar(0)), 0, 2},
		{let(tvar(0), tvar(0), tvar(1)), 0, 3},
		{let(tvar(1), tvar(1), tvar(1)), 0, 1},
		{tvar(anyNumber - 1), anyNumber - 1, 1},
		{lam(a, tvar(anyNumber)), anyNumber - 1, 1},
		{lam(a, tvar(anyNumber)), anyNumber, 0},
		{tvar(1 << 32), 0, 0},
		{ofNodes(1999), 0, 1},
		{instBy(ofNodes(1999), a), 0, 0},
		{replaceBy(ofNodes(1999), "a", tvar(0)), 0, 1000},
	} {
		if got := bind.Count(c.t, c.n); got != c.want {
			t.Errorf("Count(%s, %d) is %d, not %d", show(c.t), c.n, got, c.want)
		}
		if got := bind.Uses(c.t, c.n); got != (c.want > 0) {
			t.Errorf("Uses(%s, %d) is %v", show(c.t), c.n, got)
		}
	}
}

// oddNumbers are those of no variable.
var oddNumbers = []int{-1, -2, -3, -1000, math.MinInt, math.MinInt + 1, anyNumber, 1 << 32, 1<<32 + 1, math.MaxInt, math.MaxInt - 1}

func TestUsesAndCountByAnotherWay(t *testing.T) {
	for _, s := range several(5) {
		for n := range 6 {
			want := countBy(s, n)
			if got := bind.Count(s, n); got != want {
				t.Fatalf("Count(%s, %d) is %d, not %d", show(s), n, got, want)
			}
			if got := bind.Uses(s, n); got != (want > 0) {
				t.Fatalf("Uses(%s, %d) is %v", show(s), n, got)
			}
		}
		for _, n := range oddNumbers {
			if bind.Count(s, n) != 0 || bind.Uses(s, n) {
				t.Fatalf("%d is used in %s", n, show(s))
			}
		}
	}
}

func TestUsesCountAndOccursOfWrong(t *testing.T) {
	for _, s := range slices.Concat(wrong(), endless()) {
		for _, n := range append(oddNumbers, 0, 1, 2, s.N) {
			if bind.Uses(s, n) || bind.Count(s, n) != 0 {
				t.Errorf("Count(%s, %d) is %d", show(s), n, bind.Count(s, n))
			}
		}
		for _, name := range []string{"a", "b", "c", "", s.Name} {
			if bind.Occurs(s, name) {
				t.Errorf("%q occurs in %s", name, show(s))
			}
		}
	}
}

func TestOccurs(t *testing.T) {
	for _, c := range []struct {
		t    api.Term
		name string
		want bool
	}{
		{a, "a", true},
		{a, "b", false},
		{a, "", false},
		{tvar(0), "", false},
		{con("nat.add"), "nat.add", true},
		{con("nat.add"), "nat", false},
		{con("nat"), "nat.add", false},
		{con("nat.add"), "add", false},
		{con("a", u, v), "a", true},
		{term.Sort(u), "u", false},
		{app(a, b), "a", true},
		{app(a, b), "b", true},
		{app(a, b), "c", false},
		{lam(a, tvar(0)), "a", true},
		{lam(tvar(0), a), "a", true},
		{pi(b, lam(c, a)), "a", true},
		{let(a, b, c), "a", true},
		{let(a, b, c), "b", true},
		{let(a, b, c), "c", true},
		{let(a, b, c), "d", false},
		{ofNodes(1999), "a", true},
		{a, "A", false},
		{a, "a\x00", false},
	} {
		if got := bind.Occurs(c.t, c.name); got != c.want {
			t.Errorf("Occurs(%s, %q) is %v", show(c.t), c.name, got)
		}
	}
	for _, s := range several(6) {
		for _, name := range []string{"a", "b", "n.s", "n", "", "s"} {
			want := !term.Same(replaceBy(s, name, con("other")), s)
			if got := bind.Occurs(s, name); got != want {
				t.Fatalf("Occurs(%s, %q) is %v", show(s), name, got)
			}
		}
	}
}

func TestReplace(t *testing.T) {
	for _, c := range []struct {
		t    api.Term
		name string
		by   api.Term
		want api.Term
	}{
		{a, "a", b, b},
		{a, "b", c, a},
		{a, "", c, a},
		{tvar(0), "", c, tvar(0)},
		{app(tvar(0), term.Sort(u)), "", c, app(tvar(0), term.Sort(u))},
		{con("a", u, v), "a", b, b},
		{con("a", u), "a", con("a", v), con("a", v)},
		{con("a.b"), "a", c, con("a.b")},
		{app(a, b), "a", b, app(b, b)},
		{app(a, b), "b", app(a, b), app(a, app(a, b))},
		{app(a, a), "a", tvar(3), app(tvar(3), tvar(3))},
		{lam(a, a), "a", tvar(3), lam(tvar(3), tvar(4))},
		{lam(a, tvar(1)), "b", tvar(3), lam(a, tvar(1))},
		{pi(a, pi(a, a)), "a", app(tvar(0), lam(b, tvar(0))), pi(app(tvar(0), lam(b, tvar(0))), pi(app(tvar(1), lam(b, tvar(0))), app(tvar(2), lam(b, tvar(0)))))},
		{let(a, a, a), "a", tvar(0), let(tvar(0), tvar(0), tvar(1))},
		{lam(b, app(tvar(0), tvar(1), a)), "a", tvar(0), lam(b, app(tvar(0), tvar(1), tvar(1)))},
		{lam(b, a), "a", tvar(anyNumber - 1), lam(b, tvar(anyNumber))},
		{deep(999, con("b")), "b", tvar(0), deep(999, tvar(999))},
	} {
		isAs(t, ask(bind.Replace(c.t, c.name, c.by)), c.want, "Replace", c.t, c.name, c.by)
	}
}

func TestReplaceByAnotherWay(t *testing.T) {
	dice := rand.New(rand.NewSource(7))
	for _, s := range several(8) {
		by := thrown(dice, 1+dice.Intn(8), 3)
		for _, name := range []string{"a", "b", "n.s", "n", ""} {
			isAs(t, ask(bind.Replace(s, name, by)), replaceBy(s, name, by), "Replace", s, name, by)
		}
	}
}

func TestReplaceOfWrong(t *testing.T) {
	for _, s := range slices.Concat(wrong(), endless()) {
		isNone(t, ask(bind.Replace(s, "a", a)), "Replace of a wrong one")
		isNone(t, ask(bind.Replace(s, s.Name, a)), "Replace of a wrong one")
		isNone(t, ask(bind.Replace(a, "a", s)), "Replace by a wrong one")
		isNone(t, ask(bind.Replace(a, "b", s)), "Replace by a wrong one that isn't used")
	}
}

func TestAbstract(t *testing.T) {
	for _, c := range []struct {
		t     api.Term
		names []string
		want  api.Term
	}{
		{app(a, b), []string{"a", "b"}, app(tvar(1), tvar(0))}, // the document's example
		{a, nil, a},
		{tvar(2), nil, tvar(2)},
		{a, []string{"a"}, tvar(0)},
		{a, []string{"b"}, a},
		{tvar(0), []string{"a"}, tvar(1)},
		{tvar(0), []string{"", "A", "a..b"}, tvar(3)},
		{term.Sort(u), []string{""}, term.Sort(u)},
		{con("a", u, v), []string{"a"}, tvar(0)},
		{app(con("a", u), con("a"), con("a", v)), []string{"a"}, app(tvar(0), tvar(0), tvar(0))},
		{app(a, b, c, tvar(0)), []string{"a", "b", "c"}, app(tvar(2), tvar(1), tvar(0), tvar(3))},
		{app(a, b, c, tvar(1)), []string{"c", "a"}, app(tvar(0), b, tvar(1), tvar(3))},
		{con("a.b"), []string{"a", "b"}, con("a.b")},
		{lam(a, a), []string{"a"}, lam(tvar(0), tvar(1))},
		{lam(a, app(tvar(0), tvar(1), a, b)), []string{"a", "b"}, lam(tvar(1), app(tvar(0), tvar(3), tvar(2), tvar(1)))},
		{pi(b, pi(c, app(a, tvar(2)))), []string{"a"}, pi(b, pi(c, app(tvar(2), tvar(3))))},
		{let(a, a, a), []string{"a", "b"}, let(tvar(1), tvar(1), tvar(2))},
		// Of a name that is told twice the first one's.
		{app(a, b), []string{"a", "a"}, app(tvar(1), b)},
		{app(a, b), []string{"a", "b", "a"}, app(tvar(2), tvar(1))},
		{app(a, b, tvar(0)), []string{"b", "a", "a", "b"}, app(tvar(2), tvar(3), tvar(4))},
		{lam(a, app(a, tvar(1))), []string{"a", "a", "a"}, lam(tvar(2), app(tvar(3), tvar(4)))},
		{tvar(anyNumber - 2), []string{"a"}, tvar(anyNumber - 1)},
		{deep(999, con("b")), []string{"b", "c"}, deep(999, tvar(1000))},
	} {
		isAs(t, ask(bind.Abstract(c.t, c.names...)), c.want, "Abstract", c.t, c.names)
	}
}

func TestAbstractByAnotherWay(t *testing.T) {
	lists := [][]string{nil, {"a"}, {"b"}, {"x", "a"}, {"a", "b"}, {"b", "a", "b"}, {"n.s", "a", "a", "b"}, {"n", "s", ""}}
	for _, s := range several(9) {
		for _, names := range lists {
			isAs(t, ask(bind.Abstract(s, names...)), abstractBy(s, names...), "Abstract", s, names)
		}
	}
}

// TestAbstractOfMany: there may be more names than what Lift raises by.
func TestAbstractOfMany(t *testing.T) {
	many := make([]string, 1<<20+1)
	many[3], many[len(many)-2] = "a", "a"
	isAs(t, ask(bind.Abstract(lam(a, app(a, tvar(1))), many...)), lam(tvar(1<<20-3), app(tvar(1<<20-2), tvar(1<<20+2))), "Abstract of many")
}

func TestAbstractOfWrong(t *testing.T) {
	for _, s := range slices.Concat(wrong(), endless()) {
		isNone(t, ask(bind.Abstract(s)), "Abstract of a wrong one")
		isNone(t, ask(bind.Abstract(s, "a")), "Abstract of a wrong one")
		isNone(t, ask(bind.Abstract(s, s.Name, "b")), "Abstract of a wrong one")
	}
}

// TestInstOfAbstract: what was a constant without levels is it again.
func TestInstOfAbstract(t *testing.T) {
	for _, s := range several(10) {
		s = replaceBy(s, "b", b)
		got, _ := bind.Abstract(s, "b", "a", "c")
		isAs(t, ask(bind.Inst(got, b, a, c)), s, "Inst of Abstract", s)
	}
}
