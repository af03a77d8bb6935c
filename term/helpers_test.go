package term_test

import (
	"fmt"
	"math"
	"math/rand"
	"slices"
	"strings"

	"scholium/api"
	"scholium/level"
	"scholium/name"
)

// Terms are made here by literals, not by what the package makes.

func num(n int) api.Level   { return api.Level{Kind: api.LNum, N: n} }
func param(n int) api.Level { return api.Level{Kind: api.LParam, N: n} }

func succ(l api.Level) api.Level {
	return api.Level{Kind: api.LSucc, Args: []api.Level{l}}
}

func most(a, b api.Level) api.Level {
	return api.Level{Kind: api.LMax, Args: []api.Level{a, b}}
}

func imax(a, b api.Level) api.Level {
	return api.Level{Kind: api.LIMax, Args: []api.Level{a, b}}
}

// ofLevel is a right level of so many nodes.
func ofLevel(n int) api.Level {
	l := num(0)
	for range n - 1 {
		l = succ(l)
	}
	return l
}

var u, v, w, x = param(0), param(1), param(2), param(3)

func of(kind int, args ...api.Term) api.Term { return api.Term{Kind: kind, Args: args} }

func tvar(n int) api.Term { return api.Term{Kind: api.TVar, N: n} }

func sort(l api.Level) api.Term {
	return api.Term{Kind: api.TSort, Levels: []api.Level{l}}
}

func con(name string, levels ...api.Level) api.Term {
	return api.Term{Kind: api.TConst, Name: name, Levels: levels}
}

func app(f, a api.Term) api.Term      { return of(api.TApp, f, a) }
func lam(t, b api.Term) api.Term      { return of(api.TLam, t, b) }
func pi(t, b api.Term) api.Term       { return of(api.TPi, t, b) }
func let(t, val, b api.Term) api.Term { return of(api.TLet, t, val, b) }

var a, b, c = con("a"), con("b"), con("c")

const any = 1 << 50

// show tells a term as text, cut off where it is long.
func show(t api.Term) string {
	if size(t) > 60 {
		return fmt.Sprintf("a term of the kind %d of %d nodes", t.Kind, size(t))
	}
	return whole(t)
}

func whole(t api.Term) string {
	s := fmt.Sprintf("%d.%d%s", t.Kind, t.N, t.Name)
	for _, l := range t.Levels {
		s += " " + showLevel(l)
	}
	for _, arg := range t.Args {
		s += " " + whole(arg)
	}
	return "(" + s + ")"
}

func showLevel(l api.Level) string {
	s := fmt.Sprintf("*%d.%d", l.Kind, l.N)
	for _, arg := range l.Args {
		s += " " + showLevel(arg)
	}
	return "(" + s + ")"
}

// equal: are two terms one, node by node?
func equal(s, t api.Term) bool {
	if s.Kind != t.Kind || s.N != t.N || s.Name != t.Name || len(s.Levels) != len(t.Levels) || len(s.Args) != len(t.Args) {
		return false
	}
	for i := range s.Levels {
		if !equalLevels(s.Levels[i], t.Levels[i]) {
			return false
		}
	}
	for i := range s.Args {
		if !equal(s.Args[i], t.Args[i]) {
			return false
		}
	}
	return true
}

func equalLevels(k, l api.Level) bool {
	return k.Kind == l.Kind && k.N == l.N && slices.EqualFunc(k.Args, l.Args, equalLevels)
}

func isNothing(t api.Term) bool { return equal(t, api.Term{}) }

// size is how many nodes a term has, those of its levels too.
func size(t api.Term) int {
	n := 1 + levelSize(t.Levels)
	for _, arg := range t.Args {
		n += size(arg)
	}
	return n
}

func levelSize(list []api.Level) int {
	n := len(list)
	for _, l := range list {
		n += levelSize(l.Args)
	}
	return n
}

// rightBy tells by another way than the package does whether a term is right.
func rightBy(t api.Term, n, k int) bool {
	return k >= 0 && size(t) <= 2000 && isMadeRight(t, n, min(k, any))
}

// isMadeRight: each node is held against one that is made new of what the document tells of its kind.
func isMadeRight(t api.Term, n, k int) bool {
	for _, l := range t.Levels {
		if !level.Right(l, n) {
			return false
		}
	}
	var told api.Term
	switch t.Kind {
	case api.TVar:
		told = tvar(t.N)
		if t.N < 0 || t.N > k-1 {
			return false
		}
	case api.TSort:
		if len(t.Levels) != 1 {
			return false
		}
		told = sort(t.Levels[0])
	case api.TConst:
		told = con(t.Name, t.Levels...)
		if !name.Right(t.Name) || len(t.Levels) > 4 {
			return false
		}
	case api.TApp:
		if len(t.Args) != 2 {
			return false
		}
		told = app(t.Args[0], t.Args[1])
		return equal(t, told) && isMadeRight(t.Args[0], n, k) && isMadeRight(t.Args[1], n, k)
	case api.TLam, api.TPi:
		if len(t.Args) != 2 {
			return false
		}
		told = of(t.Kind, t.Args[0], t.Args[1])
		return equal(t, told) && isMadeRight(t.Args[0], n, k) && isMadeRight(t.Args[1], n, k+1)
	case api.TLet:
		if len(t.Args) != 3 {
			return false
		}
		told = let(t.Args[0], t.Args[1], t.Args[2])
		return equal(t, told) && isMadeRight(t.Args[0], n, k) && isMadeRight(t.Args[1], n, k) && isMadeRight(t.Args[2], n, k+1)
	default:
		return false
	}
	return equal(t, told)
}

// sized are the terms of just so many nodes over the leaves, which are of one or two.
func sized(leaves []api.Term, n int) []api.Term {
	var l []api.Term
	for _, leaf := range leaves {
		if size(leaf) == n {
			l = append(l, leaf)
		}
	}
	for left := 1; left < n-1; left++ {
		for _, s := range sized(leaves, left) {
			for _, t := range sized(leaves, n-1-left) {
				l = append(l, app(s, t), lam(s, t), pi(s, t))
			}
		}
	}
	for one := 1; one < n-2; one++ {
		for two := 1; one+two < n-1; two++ {
			for _, r := range sized(leaves, one) {
				for _, s := range sized(leaves, two) {
					for _, t := range sized(leaves, n-1-one-two) {
						l = append(l, let(r, s, t))
					}
				}
			}
		}
	}
	return l
}

// small are all terms of at most so many nodes over some leaves.
func small(n int) []api.Term {
	leaves := []api.Term{tvar(0), tvar(1), tvar(2), a, sort(v), con("b", u)}
	var l []api.Term
	for size := 1; size <= n; size++ {
		l = append(l, sized(leaves, size)...)
	}
	return l
}

// thrown is a term of at most so many nodes that the dice make: right for 4, and for three variables.
func thrown(dice *rand.Rand, nodes int) api.Term { return thrownIn(dice, nodes, 3) }

func thrownIn(dice *rand.Rand, nodes, k int) api.Term {
	kind := dice.Intn(7)
	switch {
	case nodes < 3 || kind == 0:
		return thrownLeaf(dice, k, nodes > 1)
	case kind == 1 && nodes > 3:
		return con([]string{"a", "b", "n.s", "n.z"}[dice.Intn(4)], thrownLevel(dice, nodes-2), num(dice.Intn(3)))
	case kind == 2:
		return sort(thrownLevel(dice, nodes-1))
	}
	left := 1 + dice.Intn(nodes-2)
	if kind == 3 && left > 1 {
		first := 1 + dice.Intn(left-1)
		return let(thrownIn(dice, first, k), thrownIn(dice, left-first, k), thrownIn(dice, nodes-1-left, k+1))
	}
	if kind == 4 {
		return app(thrownIn(dice, left, k), thrownIn(dice, nodes-1-left, k))
	}
	return of([]int{api.TLam, api.TPi}[dice.Intn(2)], thrownIn(dice, left, k), thrownIn(dice, nodes-1-left, k+1))
}

func thrownLeaf(dice *rand.Rand, k int, isRoom bool) api.Term {
	switch {
	case dice.Intn(3) > 0:
		return tvar(dice.Intn(k))
	case dice.Intn(2) == 0 && isRoom:
		return sort(thrownLevel(dice, 1))
	}
	return con([]string{"c", "a", "n", "n.s"}[dice.Intn(4)])
}

func thrownLevel(dice *rand.Rand, nodes int) api.Level {
	nodes = min(nodes, 5)
	if nodes < 3 || dice.Intn(3) == 0 {
		return []api.Level{num(dice.Intn(3)), u, v, w, x}[dice.Intn(5)]
	}
	if dice.Intn(3) == 0 {
		return succ(thrownLevel(dice, nodes-1))
	}
	return []func(a, b api.Level) api.Level{most, imax}[dice.Intn(2)](thrownLevel(dice, 1), thrownLevel(dice, nodes-2))
}

// ofNodes is a right term of so many nodes, for one variable.
func ofNodes(n int) api.Term {
	t := tvar(0)
	for size(t) < n-1 {
		t = app(t, a)
	}
	if size(t) < n {
		t = replaced(t, sort(u))
	}
	return t
}

// replaced is a chain of TApp with another first one.
func replaced(t, first api.Term) api.Term {
	if t.Kind != api.TApp {
		return first
	}
	return app(replaced(t.Args[0], first), t.Args[1])
}

// chain is a right term of so many nodes, an odd number, that are nested as deep as they may.
func chain(n int) api.Term {
	t := tvar(0)
	for range n / 2 {
		t = lam(a, t)
	}
	return t
}

var oddNumbers = []int{1, 2, -1, 1 << 32, math.MinInt, math.MaxInt}

// wrongNodes are terms of which the outermost node is wrong, whatever the numbers of parameters and variables.
func wrongNodes() []api.Term {
	var l []api.Term
	for _, kind := range []int{0, -1, 8, 9, 100, math.MinInt, math.MaxInt, 1<<32 + 1} {
		l = append(l, api.Term{Kind: kind}, of(kind, a), of(kind, a, b), of(kind, a, b, c), api.Term{Kind: kind, Name: "a"}, api.Term{Kind: kind, Levels: []api.Level{u}})
	}
	right := map[int]api.Term{api.TVar: tvar(0), api.TSort: sort(u), api.TConst: con("a", u, v), api.TApp: app(a, b), api.TLam: lam(a, b), api.TPi: pi(a, b), api.TLet: let(a, b, c)}
	for kind, t := range right {
		for n := range 6 {
			if n != len(t.Args) {
				t.Args = slices.Repeat([]api.Term{a}, n)
				l = append(l, t)
				t.Args = right[kind].Args
			}
			if n != len(t.Levels) && kind != api.TConst {
				t.Levels = slices.Repeat([]api.Level{num(0)}, n)
				l = append(l, t)
				t.Levels = right[kind].Levels
			}
		}
		for _, n := range oddNumbers {
			if kind != api.TVar {
				t.N = n
				l = append(l, t)
				t.N = 0
			}
		}
		for _, name := range []string{"a", "nat", "x.y", " ", "\x00"} {
			if kind != api.TConst {
				t.Name = name
				l = append(l, t)
				t.Name = ""
			}
		}
	}
	for _, name := range []string{"", ".", "A", "1", "a.", ".a", "a..b", "é", "a b", "a\xff", strings.Repeat("a", 41)} {
		l = append(l, con(name), con(name, u))
	}
	for n := 5; n < 10; n++ {
		l = append(l, con("a", slices.Repeat([]api.Level{num(0)}, n)...))
	}
	for _, n := range []int{-1, -2, math.MinInt, 1<<50 + 2, 1 << 51, math.MaxInt} {
		l = append(l, tvar(n))
	}
	return append(l, ofWrongLevels()...)
}

// ofWrongLevels are terms whose levels are right for no number of parameters.
func ofWrongLevels() []api.Term {
	var l []api.Term
	for _, odd := range []api.Level{{}, num(-1), num(101), param(4), param(-1), succ(num(101)), most(u, param(4)), ofLevel(65), ofLevel(100), {Kind: 6}, {Kind: api.LSucc}, {Kind: api.LNum, Args: []api.Level{u}}} {
		l = append(l, sort(odd), con("a", odd), con("a", u, odd), con("a", odd, u), con("a", u, v, w, odd))
	}
	return l
}

// wrong are terms that aren't right for 4 and any number of variables.
func wrong() []api.Term {
	l := wrongNodes()
	for _, t := range wrongNodes() {
		l = append(l, app(t, a), app(a, t), lam(t, a), lam(a, t), pi(t, a), pi(a, t), let(t, a, b), let(a, t, b), let(a, b, t), pi(a, app(lam(b, t), c)))
	}
	for _, n := range []int{2001, 2002, 2003, 2100, 5000} {
		l = append(l, ofNodes(n))
	}
	l = append(l, chain(2001), chain(2003), tvar(any), lam(a, tvar(any+1)), lam(tvar(any), a), let(a, tvar(any), b))
	return append(l, sort(ofLevel(2000)), app(ofNodes(1950), sort(ofLevel(49))), app(ofNodes(1940), con("a", ofLevel(30), ofLevel(29))))
}

// endless are terms that no walk over all nodes comes to an end of, or hardly any.
func endless() []api.Term {
	var l []api.Term
	for _, kind := range []int{api.TVar, api.TSort, api.TConst, api.TApp, api.TLam, api.TPi, api.TLet, 9} {
		for n := 1; n <= 4; n++ {
			self := make([]api.Term, n)
			for i := range self {
				self[i] = api.Term{Kind: kind, Args: self}
			}
			ahead := slices.Repeat([]api.Term{a}, n)
			ahead[n-1] = api.Term{Kind: kind, Args: ahead}
			behind := slices.Repeat([]api.Term{a}, n)
			behind[0] = api.Term{Kind: kind, Args: behind}
			l = append(l, self[0], ahead[n-1], behind[0])
		}
	}
	twice, raised := a, u
	for range 200 {
		twice, raised = app(twice, twice), most(raised, raised)
	}
	loop := make([]api.Level, 1)
	loop[0] = api.Level{Kind: api.LSucc, Args: loop}
	return append(l, twice, sort(raised), con("a", u, raised), sort(loop[0]), app(a, con("a", loop...)))
}

// great are terms that have an end, and are kept whole by what makes terms.
func great() []api.Term {
	deep, left := tvar(0), tvar(0)
	for range 1<<16 - 2 {
		deep, left = lam(a, deep), app(left, b)
	}
	wide := api.Term{Kind: api.TApp, Args: make([]api.Term, 1<<18)}
	return []api.Term{deep, left, wide, sort(ofLevel(1 << 15)), con("a", make([]api.Level, 1<<18)...), let(ofNodes(3000), ofNodes(4000), ofNodes(5000))}
}
