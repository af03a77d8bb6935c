package bind_test

import (
	"fmt"
	"math"
	"math/rand"
	"slices"
	"strings"

	"scholium/api"
	"scholium/level"
	"scholium/term"
)

const anyNumber = 1 << 50

var (
	con  = term.Const
	tvar = term.Var
	let  = term.Let
	u, v = level.Param(0), level.Param(3)

	a, b, c = con("a"), con("b"), con("c")
)

func app(f api.Term, args ...api.Term) api.Term { return term.App(f, args...) }
func lam(t, body api.Term) api.Term             { return term.Lam(body, t) }
func pi(t, body api.Term) api.Term              { return term.Pi(body, t) }
func of(kind int, args ...api.Term) api.Term    { return api.Term{Kind: kind, Args: args} }

func isNothing(t api.Term) bool { return term.Same(t, api.Term{}) }

// show tells a right term as text, cut off where it is long.
func show(t api.Term) string {
	if term.Nodes(t) > 80 {
		return fmt.Sprintf("a term of the kind %d of %d nodes", t.Kind, term.Nodes(t))
	}
	var parts []string
	for _, arg := range t.Args {
		parts = append(parts, show(arg))
	}
	between := strings.Join(parts, " ")
	switch t.Kind {
	case api.TVar:
		return fmt.Sprintf("#%d", t.N)
	case api.TConst:
		return fmt.Sprintf("%s%v", t.Name, t.Levels)
	case api.TSort:
		return fmt.Sprintf("*%v", t.Levels)
	case api.TApp, api.TLam, api.TPi, api.TLet:
		return "(" + []string{"", "\\ ", "> ", "= "}[t.Kind-api.TApp] + between + ")"
	}
	return fmt.Sprintf("%v", t)
}

// tree is a term by another way: a variable has the node that binds it, or its number if it is loose, and so means the same wherever it stands. Nothing is ever raised.
type tree struct {
	node   api.Term // without Args
	args   []*tree
	binder *tree
	loose  int
}

// read is a term's tree, in some binders, the outermost first.
func read(t api.Term, binders ...*tree) *tree {
	x := &tree{node: t}
	x.node.Args = nil
	if t.Kind == api.TVar {
		if t.N < len(binders) {
			x.binder = binders[len(binders)-1-t.N]
		}
		x.loose = t.N - len(binders)
	}
	for i, arg := range t.Args {
		within := binders
		if t.Kind > api.TApp && i == len(t.Args)-1 {
			within = append(slices.Clip(binders), x)
		}
		x.args = append(x.args, read(arg, within...))
	}
	return x
}

// write is a tree's term.
func (x *tree) write(binders ...*tree) api.Term {
	out := x.node
	if out.Kind == api.TVar {
		out.N = x.loose + len(binders)
		if x.binder != nil {
			out.N = len(binders) - 1 - slices.Index(binders, x.binder)
		}
	}
	for i, arg := range x.args {
		within := binders
		if out.Kind > api.TApp && i == len(x.args)-1 {
			within = append(slices.Clip(binders), x)
		}
		out.Args = append(out.Args, arg.write(within...))
	}
	return out
}

// put is the tree with what is told in the place of each leaf.
func (x *tree) put(tell func(leaf *tree) *tree) *tree {
	if len(x.args) == 0 {
		return tell(x)
	}
	for i, arg := range x.args {
		x.args[i] = arg.put(tell)
	}
	return x
}

// edited is what comes of a term when something else is told in the place of some leaves of its tree.
func edited(t api.Term, tell func(leaf *tree) *tree) api.Term {
	return read(t).put(tell).write()
}

// editedLoose is what comes of a term when something else is told in the place of its loose variables.
func editedLoose(t api.Term, tell func(n int) *tree) api.Term {
	return edited(t, func(leaf *tree) *tree {
		if leaf.node.Kind == api.TVar && leaf.binder == nil {
			return tell(leaf.loose)
		}
		return leaf
	})
}

// loose is the tree of a loose variable.
func loose(n int) *tree { return &tree{node: tvar(0), loose: n} }

func liftBy(t api.Term, by, from int) api.Term {
	return editedLoose(t, func(n int) *tree {
		if n < from {
			return loose(n)
		}
		return loose(n + by)
	})
}

func lowerBy(t api.Term, by int) (api.Term, bool) {
	ok := true
	out := editedLoose(t, func(n int) *tree {
		ok = ok && n >= by
		return loose(n - by)
	})
	if !ok {
		return api.Term{}, false
	}
	return out, true
}

func instBy(t api.Term, args ...api.Term) api.Term {
	return editedLoose(t, func(n int) *tree {
		if n < len(args) {
			return read(args[len(args)-1-n])
		}
		return loose(n - len(args))
	})
}

func countBy(t api.Term, n int) int {
	found := 0
	editedLoose(t, func(m int) *tree {
		if m == n {
			found++
		}
		return loose(m)
	})
	return found
}

func replaceBy(t api.Term, name string, by api.Term) api.Term {
	return edited(t, func(leaf *tree) *tree {
		if leaf.node.Kind == api.TConst && leaf.node.Name == name {
			return read(by)
		}
		return leaf
	})
}

func abstractBy(t api.Term, names ...string) api.Term {
	return edited(t, func(leaf *tree) *tree {
		at := slices.Index(names, leaf.node.Name)
		switch {
		case leaf.node.Kind == api.TConst && at >= 0:
			return loose(len(names) - 1 - at)
		case leaf.node.Kind == api.TVar && leaf.binder == nil:
			return loose(leaf.loose + len(names))
		}
		return leaf
	})
}

// sized are the terms of just so many nodes over some leaves.
func sized(n int) []api.Term {
	var l []api.Term
	switch n {
	case 1:
		l = []api.Term{tvar(0), tvar(1), tvar(3), a}
	case 2:
		l = []api.Term{con("b", u), term.Sort(v)}
	}
	for left := 1; left < n-1; left++ {
		for _, s := range sized(left) {
			for _, t := range sized(n - 1 - left) {
				l = append(l, app(s, t), lam(s, t), pi(s, t))
			}
			for middle := 1; left+middle < n-1; middle++ {
				for _, r := range sized(middle) {
					for _, t := range sized(n - 1 - left - middle) {
						l = append(l, let(s, r, t))
					}
				}
			}
		}
	}
	return l
}

// small are all terms of at most so many nodes over some leaves.
func small(most int) []api.Term {
	var l []api.Term
	for n := range most {
		l = append(l, sized(n+1)...)
	}
	return l
}

// thrown is a term of at most so many nodes that the dice make, with loose variables below so many.
func thrown(dice *rand.Rand, nodes, loose int) api.Term {
	if nodes < 4 || dice.Intn(8) == 0 {
		leaves := []api.Term{tvar(dice.Intn(loose)), tvar(dice.Intn(loose)), tvar(dice.Intn(loose)), con([]string{"a", "b", "n.s"}[dice.Intn(3)])}
		if nodes > 1 {
			leaves = append(leaves, term.Sort([]api.Level{u, v}[dice.Intn(2)]), con("b", level.Num(dice.Intn(9))))
		}
		return leaves[dice.Intn(len(leaves))]
	}
	left := 1 + dice.Intn(nodes-2)
	first := thrown(dice, left, loose)
	switch dice.Intn(5) {
	case 0:
		return app(first, thrown(dice, nodes-1-left, loose))
	case 1:
		return let(a, first, thrown(dice, nodes-1-left, loose+1))
	case 2:
		return let(first, a, thrown(dice, nodes-1-left, loose+1))
	case 3:
		return lam(first, thrown(dice, nodes-1-left, loose+1))
	}
	return pi(first, thrown(dice, nodes-1-left, loose+1))
}

// thrownList are so many terms that the dice make, of a few nodes each.
func thrownList(dice *rand.Rand, n int) []api.Term {
	l := make([]api.Term, n)
	for i := range l {
		l[i] = thrown(dice, 1+dice.Intn(8), 3)
	}
	return l
}

// ofNodes is a right term of so many nodes, an odd number, that uses the loose variable 0 once and no other one.
func ofNodes(n int) api.Term {
	t := tvar(0)
	for range n / 2 {
		t = of(api.TApp, t, a)
	}
	return t
}

// deep is a leaf within so many TLam.
func deep(n int, leaf api.Term) api.Term {
	for range n {
		leaf = of(api.TLam, a, leaf)
	}
	return leaf
}

// wrong are terms that aren't right for 4 universe parameters and any number of variables.
func wrong() []api.Term {
	odd := level.Param(4)
	l := []api.Term{
		{}, {Kind: -1}, {Kind: 8}, {Kind: math.MinInt}, {Kind: math.MaxInt},
		tvar(-1), tvar(anyNumber + 1), tvar(math.MaxInt), tvar(math.MinInt), {Kind: api.TVar, Name: "a"}, {Kind: api.TVar, Levels: []api.Level{u}}, of(api.TVar, a), of(api.TVar, a, b),
		{Kind: api.TSort}, {Kind: api.TSort, Levels: []api.Level{u, v}}, term.Sort(odd), term.Sort(api.Level{}), {Kind: api.TSort, N: 1, Levels: []api.Level{u}},
		con(""), con("A"), con("a."), con("a", odd), con("a", u, u, u, u, u), con(strings.Repeat("a", 41)), {Kind: api.TConst, N: 1, Name: "a"}, {Kind: api.TConst, Name: "a", Args: []api.Term{a}},
		of(api.TApp), of(api.TApp, a), of(api.TApp, a, b, c), of(api.TLam), of(api.TLam, a), of(api.TPi, a, b, c), of(api.TLet), of(api.TLet, a, b), of(api.TLet, a, b, c, a),
		{Kind: api.TApp, N: 1, Args: []api.Term{a, b}}, {Kind: api.TLet, Name: "a", Args: []api.Term{a, b, c}}, {Kind: api.TPi, Levels: []api.Level{u}, Args: []api.Term{a, b}},
	}
	for _, t := range l {
		l = append(l, of(api.TApp, t, a), of(api.TApp, a, t), of(api.TLam, t, a), of(api.TPi, a, t), of(api.TLet, t, a, b), of(api.TLet, a, t, b), of(api.TLet, a, b, t))
	}
	return append(l, ofNodes(2001), ofNodes(4001), deep(1000, a), tvar(anyNumber), lam(a, tvar(anyNumber+1)), lam(tvar(anyNumber), a), of(api.TApp, ofNodes(1999), a))
}

// endless are terms that no walk over all nodes comes to an end of, or hardly any.
func endless() []api.Term {
	var l []api.Term
	for kind := api.TVar; kind <= api.TLet+1; kind++ {
		for n := 1; n <= 3; n++ {
			self := slices.Repeat([]api.Term{a}, n)
			self[n-1] = of(kind, self...)
			self[0] = of(kind, self...)
			l = append(l, of(kind, self...))
		}
	}
	twice, above := a, make([]api.Level, 1)
	for range 200 {
		twice = of(api.TApp, twice, twice)
	}
	above[0] = api.Level{Kind: api.LSucc, Args: above}
	return append(l, twice, api.Term{Kind: api.TSort, Levels: above}, api.Term{Kind: api.TConst, Name: "a", Levels: above})
}
