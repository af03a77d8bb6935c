package text_test

import (
	"fmt"
	"math"
	"math/rand"
	"slices"
	"strings"

	"scholium/api"
)

// Levels, terms and declarations are made here by literals.

func num(n int) api.Level                       { return api.Level{Kind: api.LNum, N: n} }
func param(n int) api.Level                     { return api.Level{Kind: api.LParam, N: n} }
func lev(kind int, args ...api.Level) api.Level { return api.Level{Kind: kind, Args: args} }
func succ(l api.Level) api.Level                { return lev(api.LSucc, l) }
func most(a, b api.Level) api.Level             { return lev(api.LMax, a, b) }
func imax(a, b api.Level) api.Level             { return lev(api.LIMax, a, b) }

// ofLevel is a right level of so many nodes.
func ofLevel(n int) api.Level {
	l := num(0)
	for range n - 1 {
		l = succ(l)
	}
	return l
}

func of(kind int, args ...api.Term) api.Term { return api.Term{Kind: kind, Args: args} }
func tvar(n int) api.Term                    { return api.Term{Kind: api.TVar, N: n} }
func sort(l api.Level) api.Term              { return api.Term{Kind: api.TSort, Levels: []api.Level{l}} }
func con(name string, levels ...api.Level) api.Term {
	return api.Term{Kind: api.TConst, Name: name, Levels: levels}
}
func app(f api.Term, args ...api.Term) api.Term {
	for _, arg := range args {
		f = of(api.TApp, f, arg)
	}
	return f
}
func lam(t, b api.Term) api.Term      { return of(api.TLam, t, b) }
func pi(t, b api.Term) api.Term       { return of(api.TPi, t, b) }
func let(t, val, b api.Term) api.Term { return of(api.TLet, t, val, b) }

var (
	u, v, w, x = param(0), param(1), param(2), param(3)
	a, b, c    = con("a"), con("b"), con("c")
	longName   = strings.Repeat("n", 40)
)

const anyNumber = 1 << 50

// ofNodes is a right term of so many nodes.
func ofNodes(n int) api.Term {
	t := a
	if n%2 == 0 {
		t = sort(u)
	}
	for range (n - 1) / 2 {
		t = app(t, b)
	}
	return t
}

// deep is a leaf within so many TLam.
func deep(n int, leaf api.Term) api.Term {
	for range n {
		leaf = lam(a, leaf)
	}
	return leaf
}

// ofBytes is a right term whose text has so many bytes, 100 or more.
func ofBytes(n int) api.Term {
	t := app(a, a)
	left := n - len("(a a)")
	for left > 82 {
		t = app(t, con(longName))
		left -= 41
	}
	return app(t, con(longName[:left/2-1]), con(longName[:left-left/2-1]))
}

// levelBy is a level's text by another way.
func levelBy(l api.Level) string {
	switch l.Kind {
	case api.LNum, api.LParam:
		return fmt.Sprintf([]string{"", "%d", "u%d"}[l.Kind], l.N)
	}
	s := fmt.Sprintf("(%c", "+|?"[l.Kind-api.LSucc])
	for _, arg := range l.Args {
		s += " " + levelBy(arg)
	}
	return s + ")"
}

// termBy is a term's text by another way: what is applied stands within the group of what it is applied to, if that is one of an application.
func termBy(t api.Term) string {
	var s string
	switch t.Kind {
	case api.TVar:
		return fmt.Sprintf("#%d", t.N)
	case api.TSort:
		return fmt.Sprintf("(* %s)", levelBy(t.Levels[0]))
	case api.TConst:
		for _, l := range t.Levels {
			s += " " + levelBy(l)
		}
		if s == "" {
			return t.Name
		}
		return fmt.Sprintf("(@ %s%s)", t.Name, s)
	case api.TApp:
		f, arg := termBy(t.Args[0]), termBy(t.Args[1])
		if t.Args[0].Kind == api.TApp {
			return f[:len(f)-1] + " " + arg + ")"
		}
		return fmt.Sprintf("(%s %s)", f, arg)
	}
	for _, arg := range t.Args {
		s += " " + termBy(arg)
	}
	return fmt.Sprintf("(%c%s)", `\>=`[t.Kind-api.TLam], s)
}

// equal: are two terms one, node by node?
func equal(s, t api.Term) bool {
	return s.Kind == t.Kind && s.N == t.N && s.Name == t.Name && slices.EqualFunc(s.Levels, t.Levels, equalLevels) && slices.EqualFunc(s.Args, t.Args, equal)
}

func equalLevels(k, l api.Level) bool {
	return k.Kind == l.Kind && k.N == l.N && slices.EqualFunc(k.Args, l.Args, equalLevels)
}

// smallLevels are all levels of just so many nodes over some leaves.
func smallLevels(n int) []api.Level {
	if n == 1 {
		return []api.Level{num(0), num(1), num(10), num(100), u, v, x}
	}
	var l []api.Level
	for _, k := range smallLevels(n - 1) {
		l = append(l, succ(k))
	}
	for left := 1; left < n-1; left++ {
		for _, j := range smallLevels(left) {
			for _, k := range smallLevels(n - 1 - left) {
				l = append(l, most(j, k), imax(j, k))
			}
		}
	}
	return l
}

// sized are the terms of just so many nodes over some leaves.
func sized(n int) []api.Term {
	l := leavesOf(n)
	for left := 1; left < n-1; left++ {
		for _, s := range sized(left) {
			for _, t := range sized(n - 1 - left) {
				l = append(l, app(s, t), lam(s, t), pi(s, t))
			}
			for middle := 1; left+middle < n-1; middle++ {
				for _, r := range sized(middle) {
					for _, t := range sized(n - 1 - left - middle) {
						l = append(l, let(s, r, t))
					}
				}
			}
		}
	}
	return l
}

func leavesOf(n int) []api.Term {
	switch n {
	case 1:
		return []api.Term{tvar(0), tvar(12), a, con("u0")}
	case 2:
		return []api.Term{con("b", u), sort(num(1))}
	case 3:
		return []api.Term{con("a", num(1), u), sort(succ(v))}
	}
	return nil
}

// small are all terms of at most so many nodes over some leaves.
func small(n int) []api.Term {
	var l []api.Term
	for size := range n {
		l = append(l, sized(size+1)...)
	}
	return l
}

// thrown is a term of at most so many nodes that the dice make.
func thrown(dice *rand.Rand, nodes int) api.Term {
	if nodes < 7 || dice.Intn(9) == 0 {
		return thrownLeaf(dice, nodes)
	}
	left := 1 + dice.Intn(nodes-2)
	first, last := thrown(dice, left), thrown(dice, nodes-1-left)
	switch dice.Intn(6) {
	case 0:
		return lam(first, last)
	case 1:
		return pi(first, last)
	case 2:
		middle := thrownLeaf(dice, 1)
		return let(middle, first, thrown(dice, max(1, nodes-2-left)))
	}
	return app(first, last)
}

func thrownLeaf(dice *rand.Rand, nodes int) api.Term {
	names := []string{"a", "u1", "nat.add", "_", "x_1.y2", longName}
	name := names[dice.Intn(len(names))]
	switch dice.Intn(4) {
	case 0:
		return tvar(dice.Intn(1 << dice.Intn(51)))
	case 1:
		if nodes > 1 {
			return sort(thrownLevel(dice, nodes-1))
		}
	case 2:
		if nodes > 4 {
			return con(name, thrownLevel(dice, nodes-4), u, num(dice.Intn(101)))
		}
	}
	return con(name)
}

// thrownLevel is a level of at most so many nodes, up to 64, that the dice make.
func thrownLevel(dice *rand.Rand, nodes int) api.Level {
	nodes = min(nodes, 64)
	if nodes < 3 || dice.Intn(9) == 0 {
		return []api.Level{num(dice.Intn(101)), param(dice.Intn(4))}[dice.Intn(2)]
	}
	left := 1 + dice.Intn(nodes-2)
	first, last := thrownLevel(dice, left), thrownLevel(dice, nodes-1-left)
	return []api.Level{succ(last), most(first, last), imax(first, last)}[dice.Intn(3)]
}

// oddLevels are levels that aren't right for 4, and have an end.
func oddLevels() []api.Level {
	l := []api.Level{
		{}, {Kind: -1}, {Kind: 6}, {Kind: math.MinInt}, {Kind: math.MaxInt},
		num(-1), num(101), num(math.MinInt), num(math.MaxInt), param(-1), param(4), param(math.MaxInt), param(math.MinInt),
		lev(api.LNum, u), lev(api.LParam, u), {Kind: api.LSucc, N: 1, Args: []api.Level{u}}, {Kind: api.LMax, N: -1, Args: []api.Level{u, v}}, {Kind: api.LIMax, N: 1, Args: []api.Level{u, v}},
		lev(api.LSucc), lev(api.LSucc, u, v), lev(api.LMax), lev(api.LMax, u), lev(api.LMax, u, v, w), lev(api.LIMax), lev(api.LIMax, u), lev(api.LIMax, u, v, w),
	}
	for _, odd := range l {
		l = append(l, succ(odd), most(odd, u), most(u, odd), imax(odd, u), imax(u, odd))
	}
	return append(l, ofLevel(65), ofLevel(66), ofLevel(5000), most(ofLevel(32), ofLevel(32)))
}

// endlessLevels are levels that no walk over all nodes comes to an end of, or hardly any.
func endlessLevels() []api.Level {
	self, twice := make([]api.Level, 1), u
	self[0] = lev(api.LSucc, self...)
	self[0] = succ(self[0])
	for range 200 {
		twice = most(twice, twice)
	}
	return []api.Level{lev(api.LSucc, self...), most(u, self[0]), imax(self[0], u), twice}
}

// wrongLevels are levels that aren't right for 4.
func wrongLevels() []api.Level { return append(oddLevels(), endlessLevels()...) }

// wrongNodes are terms of which one node is wrong, and that have an end.
func wrongNodes() []api.Term {
	l := []api.Term{
		{}, {Kind: -1}, {Kind: 8}, {Kind: math.MinInt}, {Kind: math.MaxInt}, of(0, a, b), of(8, a, b), of(-1, a, b, c),
		tvar(-1), tvar(anyNumber + 3), tvar(math.MaxInt), tvar(math.MinInt), {Kind: api.TVar, Name: "a"}, {Kind: api.TVar, Levels: []api.Level{u}}, of(api.TVar, a),
		{Kind: api.TSort}, {Kind: api.TSort, Levels: []api.Level{u, v}}, {Kind: api.TSort, N: 1, Levels: []api.Level{u}}, {Kind: api.TSort, Name: "a", Levels: []api.Level{u}},
		con(""), con("A"), con("a."), con(".a"), con("1"), con("#0"), con("a b"), con("(a b)"), con(longName + "n"), con("a", u, u, u, u, u), {Kind: api.TConst, N: 1, Name: "a"}, {Kind: api.TConst, Name: "a", Args: []api.Term{a}},
		of(api.TApp), of(api.TApp, a), of(api.TApp, a, b, c), of(api.TLam), of(api.TLam, a), of(api.TLam, a, b, c), of(api.TPi), of(api.TPi, a), of(api.TPi, a, b, c), of(api.TLet), of(api.TLet, a), of(api.TLet, a, b), of(api.TLet, a, b, c, a),
		{Kind: api.TApp, N: 1, Args: []api.Term{a, b}}, {Kind: api.TLet, Name: "a", Args: []api.Term{a, b, c}}, {Kind: api.TPi, Levels: []api.Level{u}, Args: []api.Term{a, b}},
	}
	for _, odd := range oddLevels() {
		l = append(l, sort(odd), con("a", odd), con("a", u, odd))
	}
	return l
}

// wrong are terms that aren't right for 4 universe parameters and any number of variables.
func wrong() []api.Term {
	l := wrongNodes()
	for _, t := range wrongNodes() {
		l = append(l, app(t, a), app(a, t), app(a, b, t, c), lam(t, a), lam(a, t), pi(t, a), pi(a, t), let(t, a, b), let(a, t, b), let(a, b, t))
	}
	l = append(l, ofNodes(2001), ofNodes(2002), deep(1000, a), deep(1<<15, a), app(ofNodes(1999), a))
	return append(append(l, tvar(anyNumber), lam(a, tvar(anyNumber+1)), lam(tvar(anyNumber), a), let(a, tvar(anyNumber), a), let(tvar(anyNumber), a, a)), endless()...)
}

// endless are terms that no walk over all nodes comes to an end of, or hardly any.
func endless() []api.Term {
	var l []api.Term
	for kind := api.TVar; kind <= api.TLet+1; kind++ {
		for n := 1; n <= 3; n++ {
			self := slices.Repeat([]api.Term{a}, n)
			self[n-1] = of(kind, self...)
			self[0] = of(kind, self...)
			l = append(l, of(kind, self...))
		}
	}
	twice := a
	for range 200 {
		twice = app(twice, twice)
	}
	for _, level := range endlessLevels() {
		l = append(l, sort(level), con("a", u, level), app(a, sort(level)))
	}
	return append(l, twice, api.Term{Kind: api.TApp, Args: make([]api.Term, 1<<17)})
}
