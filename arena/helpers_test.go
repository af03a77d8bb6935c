package arena_test

import (
	"fmt"
	"math"
	"math/rand"
	"slices"
	"strings"
	"testing"

	"scholium/api"
	"scholium/arena"
	"scholium/term"
)

// Terms are made here by literals, not by what layers 3 and 4 make.

func num(n int) api.Level   { return api.Level{Kind: api.LNum, N: n} }
func param(n int) api.Level { return api.Level{Kind: api.LParam, N: n} }

func succ(l api.Level) api.Level {
	return api.Level{Kind: api.LSucc, Args: []api.Level{l}}
}

func most(a, b api.Level) api.Level {
	return api.Level{Kind: api.LMax, Args: []api.Level{a, b}}
}

func imax(a, b api.Level) api.Level {
	return api.Level{Kind: api.LIMax, Args: []api.Level{a, b}}
}

// ofLevel is a level of so many nodes, right for at most 64.
func ofLevel(n int) api.Level {
	l := num(0)
	for range n - 1 {
		l = succ(l)
	}
	return l
}

var u, v, w, x = param(0), param(1), param(2), param(3)

func of(kind int, args ...api.Term) api.Term { return api.Term{Kind: kind, Args: args} }

func tvar(n int) api.Term { return api.Term{Kind: api.TVar, N: n} }

func sort(l api.Level) api.Term {
	return api.Term{Kind: api.TSort, Levels: []api.Level{l}}
}

func con(name string, levels ...api.Level) api.Term {
	return api.Term{Kind: api.TConst, Name: name, Levels: levels}
}

func app(f, a api.Term) api.Term      { return of(api.TApp, f, a) }
func lam(t, b api.Term) api.Term      { return of(api.TLam, t, b) }
func pi(t, b api.Term) api.Term       { return of(api.TPi, t, b) }
func let(t, val, b api.Term) api.Term { return of(api.TLet, t, val, b) }

var a, b, c = con("a"), con("b"), con("c")

const any = 1 << 50

// show tells a term as text, cut off where it is long.
func show(t api.Term) string {
	if size(t) > 60 {
		return fmt.Sprintf("a term of the kind %d of %d nodes", t.Kind, size(t))
	}
	return whole(t)
}

func whole(t api.Term) string {
	s := fmt.Sprintf("%d.%d%s", t.Kind, t.N, t.Name)
	for _, l := range t.Levels {
		s += " " + showLevel(l)
	}
	for _, arg := range t.Args {
		s += " " + whole(arg)
	}
	return "(" + s + ")"
}

func showLevel(l api.Level) string {
	s := fmt.Sprintf("*%d.%d", l.Kind, l.N)
	for _, arg := range l.Args {
		s += " " + showLevel(arg)
	}
	return "(" + s + ")"
}

// equal: are two terms one, node by node?
func equal(s, t api.Term) bool {
	return s.Kind == t.Kind && s.N == t.N && s.Name == t.Name && slices.EqualFunc(s.Levels, t.Levels, equalLevels) && slices.EqualFunc(s.Args, t.Args, equal)
}

func equalLevels(k, l api.Level) bool {
	return k.Kind == l.Kind && k.N == l.N && slices.EqualFunc(k.Args, l.Args, equalLevels)
}

func isNothing(t api.Term) bool { return equal(t, api.Term{}) }

// size is how many nodes a term has, those of its levels too.
func size(t api.Term) int {
	n := 1 + levelSize(t.Levels)
	for _, arg := range t.Args {
		n += size(arg)
	}
	return n
}

func levelSize(list []api.Level) int {
	n := len(list)
	for _, l := range list {
		n += levelSize(l.Args)
	}
	return n
}

// plain is an arena by another way: the terms themselves, of which each is held against all others.
type plain struct {
	most int
	held []api.Term
}

func (p *plain) hold(t api.Term) (int, api.Errno) {
	for _, arg := range t.Args {
		if _, err := p.hold(arg); err != api.OK {
			return 0, err
		}
	}
	if id := p.number(t); id > 0 {
		return id, api.OK
	}
	if len(p.held) == p.most {
		return 0, api.ErrFull
	}
	p.held = append(p.held, clone(t))
	return len(p.held), api.OK
}

func (p *plain) number(t api.Term) int {
	return 1 + slices.IndexFunc(p.held, func(s api.Term) bool { return equal(s, t) })
}

func (p *plain) shared(t api.Term) int {
	var seen []api.Term
	var walk func(t api.Term)
	walk = func(t api.Term) {
		if !slices.ContainsFunc(seen, func(s api.Term) bool { return equal(s, t) }) {
			seen = append(seen, t)
		}
		for _, arg := range t.Args {
			walk(arg)
		}
	}
	walk(t)
	return len(seen)
}

// isAs holds all that an arena tells of some numbers against the other way's.
func (p *plain) isAs(t *testing.T, ar *arena.Arena, ids ...int) {
	t.Helper()
	if got := ar.Count(); got != len(p.held) {
		t.Fatalf("Count is %d, not %d", got, len(p.held))
	}
	for _, id := range ids {
		want := p.held[id-1]
		if got, ok := ar.Term(id); !ok || !equal(got, want) {
			t.Fatalf("Term(%d) is %s, %v, not %s", id, show(got), ok, show(want))
		}
		if got := ar.Kind(id); got != want.Kind {
			t.Fatalf("Kind of %s is %d", show(want), got)
		}
		for at, arg := range want.Args {
			if got := ar.Arg(id, at); got != p.number(arg) {
				t.Fatalf("Arg(%d) of %s is %d", at, show(want), got)
			}
		}
		for _, at := range outside(0, len(want.Args)-1) {
			if got := ar.Arg(id, at); got != 0 {
				t.Fatalf("Arg(%d) of %s is %d", at, show(want), got)
			}
		}
		if got := ar.Loose(id); got != term.Loose(want) {
			t.Fatalf("Loose of %s is %d", show(want), got)
		}
		if got := ar.Shared(id); got != p.shared(want) {
			t.Fatalf("Shared of %s is %d", show(want), got)
		}
	}
}

// outside are numbers that don't lie from one to another one.
func outside(from, to int) []int {
	l := []int{from - 1, from - 2, from - 3, -1000, -1 << 31, -1 << 32, math.MinInt, math.MinInt + 1}
	for _, more := range []int{1, 2, 3, 4, 1000, 1 << 20, 1 << 31, 1 << 32, 1 << 33, 1 << 50} {
		l = append(l, to+more)
	}
	return append(l, math.MaxInt-1, math.MaxInt)
}

// hasNothing: does an arena tell nothing of numbers that it doesn't have?
func hasNothing(t *testing.T, ar *arena.Arena) {
	t.Helper()
	for _, id := range outside(1, ar.Count()) {
		if got, ok := ar.Term(id); ok || !isNothing(got) {
			t.Fatalf("Term(%d) of %d is %s, %v", id, ar.Count(), show(got), ok)
		}
		if ar.Kind(id) != 0 || ar.Loose(id) != 0 || ar.Shared(id) != 0 {
			t.Fatalf("%d of %d has the Kind %d, is Loose %d, and leads to %d", id, ar.Count(), ar.Kind(id), ar.Loose(id), ar.Shared(id))
		}
		for _, at := range []int{0, 1, 2, 3, -1, math.MinInt, math.MaxInt} {
			if got := ar.Arg(id, at); got != 0 {
				t.Fatalf("Arg(%d, %d) of %d is %d", id, at, ar.Count(), got)
			}
		}
	}
}

// made is an arena that may hold so many.
func made(t *testing.T, most int) *arena.Arena {
	t.Helper()
	ar, err := arena.New(most)
	if ar == nil || err != api.OK {
		t.Fatalf("New(%d) is %v, %v", most, ar, err)
	}
	return ar
}

// isHeld holds a term, and tells its number.
func isHeld(t *testing.T, ar *arena.Arena, s api.Term) int {
	t.Helper()
	id, err := ar.Hold(s)
	if id < 1 || err != api.OK {
		t.Fatalf("Hold(%s) is %d, %v", show(s), id, err)
	}
	return id
}

// sized are the terms of just so many nodes over the leaves, which are of one or two.
func sized(leaves []api.Term, n int) []api.Term {
	var l []api.Term
	for _, leaf := range leaves {
		if size(leaf) == n {
			l = append(l, leaf)
		}
	}
	for left := 1; left < n-1; left++ {
		for _, s := range sized(leaves, left) {
			for _, t := range sized(leaves, n-1-left) {
				l = append(l, app(s, t), lam(s, t), pi(s, t))
			}
		}
	}
	for one := 1; one < n-2; one++ {
		for two := 1; one+two < n-1; two++ {
			for _, r := range sized(leaves, one) {
				for _, s := range sized(leaves, two) {
					for _, t := range sized(leaves, n-1-one-two) {
						l = append(l, let(r, s, t))
					}
				}
			}
		}
	}
	return l
}

// small are all terms of at most so many nodes over some leaves.
func small(n int) []api.Term {
	leaves := []api.Term{tvar(0), tvar(1), tvar(2), a, sort(v), con("b", u)}
	var l []api.Term
	for size := 1; size <= n; size++ {
		l = append(l, sized(leaves, size)...)
	}
	return l
}

// thrown is a term of at most so many nodes that the dice make: right for 4, and for three variables.
func thrown(dice *rand.Rand, nodes int) api.Term { return thrownIn(dice, nodes, 3) }

func thrownIn(dice *rand.Rand, nodes, k int) api.Term {
	kind := dice.Intn(7)
	switch {
	case nodes < 3 || kind == 0:
		return thrownLeaf(dice, k, nodes > 1)
	case kind == 1 && nodes > 3:
		return con([]string{"a", "b", "n.s", "n.z"}[dice.Intn(4)], thrownLevel(dice, nodes-2), num(dice.Intn(3)))
	case kind == 2:
		return sort(thrownLevel(dice, nodes-1))
	}
	left := 1 + dice.Intn(nodes-2)
	if kind == 3 && left > 1 {
		first := 1 + dice.Intn(left-1)
		return let(thrownIn(dice, first, k), thrownIn(dice, left-first, k), thrownIn(dice, nodes-1-left, k+1))
	}
	if kind == 4 {
		return app(thrownIn(dice, left, k), thrownIn(dice, nodes-1-left, k))
	}
	return of([]int{api.TLam, api.TPi}[dice.Intn(2)], thrownIn(dice, left, k), thrownIn(dice, nodes-1-left, k+1))
}

func thrownLeaf(dice *rand.Rand, k int, isRoom bool) api.Term {
	switch {
	case dice.Intn(3) > 0:
		return tvar(dice.Intn(k))
	case dice.Intn(2) == 0 && isRoom:
		return sort(thrownLevel(dice, 1))
	}
	return con([]string{"c", "a", "n", "n.s"}[dice.Intn(4)])
}

func thrownLevel(dice *rand.Rand, nodes int) api.Level {
	nodes = min(nodes, 7)
	if nodes < 3 || dice.Intn(3) == 0 {
		return []api.Level{num(dice.Intn(3)), u, v, w, x}[dice.Intn(5)]
	}
	if dice.Intn(3) == 0 {
		return succ(thrownLevel(dice, nodes-1))
	}
	left := 1 + dice.Intn(nodes-2)
	return []func(a, b api.Level) api.Level{most, imax}[dice.Intn(2)](thrownLevel(dice, left), thrownLevel(dice, nodes-1-left))
}

// ofNodes is a right term of so many nodes, an odd number, for one variable; it leads to n/2 + 2 nodes.
func ofNodes(n int) api.Term {
	t := tvar(0)
	for range n / 2 {
		t = app(t, a)
	}
	return t
}

// wrong are terms that aren't right for 4 and any number of variables.
func wrong() []api.Term {
	l := []api.Term{
		{}, {Kind: -1}, {Kind: 8}, {Kind: 1<<32 + 1}, {Kind: math.MinInt}, {Kind: math.MaxInt},
		tvar(-1), tvar(any + 1), tvar(math.MaxInt), tvar(math.MinInt),
		{Kind: api.TVar, Name: "a"}, {Kind: api.TVar, Levels: []api.Level{u}}, of(api.TVar, a),
		{Kind: api.TSort}, {Kind: api.TSort, N: 1, Levels: []api.Level{u}}, {Kind: api.TSort, Levels: []api.Level{u, u}},
		con(""), con("A"), con("a."), con("a..b"), con("1"), con("\xff"), con(strings.Repeat("a", 41)),
		con("a", u, u, u, u, u), {Kind: api.TConst, N: 1, Name: "a"}, {Kind: api.TConst, Name: "a", Args: []api.Term{a}},
		of(api.TApp), of(api.TApp, a), of(api.TApp, a, b, c), of(api.TLam, a), of(api.TLam, a, b, c), of(api.TPi), of(api.TPi, a, b, c),
		of(api.TLet), of(api.TLet, a), of(api.TLet, a, b), of(api.TLet, a, b, c, a),
		{Kind: api.TApp, N: 1, Args: []api.Term{a, b}}, {Kind: api.TLet, Name: "a", Args: []api.Term{a, b, c}}, {Kind: api.TPi, Levels: []api.Level{u}, Args: []api.Term{a, b}},
	}
	for _, odd := range []api.Level{{}, num(-1), num(101), num(256), num(257), param(4), param(-1), ofLevel(65), {Kind: 6}, {Kind: 257}, {Kind: api.LSucc}, {Kind: api.LNum, Args: []api.Level{u}}, {Kind: api.LMax, Args: make([]api.Level, 258)}} {
		l = append(l, sort(odd), con("a", odd), con("a", u, odd))
	}
	for _, t := range l {
		l = append(l, app(t, a), app(a, t), lam(a, t), pi(t, a), let(a, t, b), let(a, b, t))
	}
	return append(l, ofNodes(2001), app(ofNodes(1999), ofNodes(1999)), tvar(any), lam(a, tvar(any+1)), lam(tvar(any), a), let(a, tvar(any), b), app(ofNodes(1951), sort(ofLevel(48))))
}

// endless are terms that no walk over all nodes comes to an end of, or hardly any.
func endless() []api.Term {
	var l []api.Term
	for _, kind := range []int{api.TVar, api.TSort, api.TConst, api.TApp, api.TLam, api.TPi, api.TLet, 9} {
		for n := 1; n <= 4; n++ {
			self := make([]api.Term, n)
			for i := range self {
				self[i] = api.Term{Kind: kind, Args: self}
			}
			ahead := slices.Repeat([]api.Term{a}, n)
			ahead[n-1] = api.Term{Kind: kind, Args: ahead}
			l = append(l, self[0], ahead[n-1])
		}
	}
	twice, raised := a, u
	for range 200 {
		twice, raised = app(twice, twice), most(raised, raised)
	}
	loop := make([]api.Level, 1)
	loop[0] = api.Level{Kind: api.LSucc, Args: loop}
	return append(l, twice, sort(raised), con("a", u, raised), sort(loop[0]), app(a, con("a", loop...)))
}

// great are terms that have an end, and far too many nodes.
func great() []api.Term {
	deep, left := tvar(0), tvar(0)
	for range 1<<16 - 2 {
		deep, left = lam(a, deep), app(left, b)
	}
	wide := api.Term{Kind: api.TApp, Args: make([]api.Term, 1<<18)}
	return []api.Term{deep, left, wide, sort(ofLevel(1 << 15)), con("a", make([]api.Level, 1<<18)...)}
}
