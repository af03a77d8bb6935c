package term

import (
	"slices"

	"scholium/api"
)

// Var: the variable that is bound n binders out.
func Var(n int) api.Term { return api.Term{Kind: api.TVar, N: n} }

// Sort: the sort of a level.
func Sort(l api.Level) api.Term {
	return api.Term{Kind: api.TSort, Levels: []api.Level{ownLevel(l)}}
}

// Const: the constant of a name at levels.
func Const(name string, levels ...api.Level) api.Term {
	return api.Term{Kind: api.TConst, Name: name, Levels: each(levels, ownLevel)}
}

// App: a term applied to others, one behind the other.
func App(f api.Term, args ...api.Term) api.Term {
	out := own(f)
	for _, arg := range args {
		out = node(api.TApp, out, own(arg))
	}
	return out
}

// Lam: the function over types, the first one outermost, with a body.
func Lam(body api.Term, types ...api.Term) api.Term {
	return bound(api.TLam, own(body), each(types, own))
}

// Pi: the type of functions over types, the first one outermost, to a body.
func Pi(body api.Term, types ...api.Term) api.Term {
	return bound(api.TPi, own(body), each(types, own))
}

// Let: a body, in which a value of a type is named.
func Let(typ, value, body api.Term) api.Term {
	return node(api.TLet, own(typ), own(value), own(body))
}

// Arrow: the functions from types to a type, none of which hangs on them, and true; noughts and false, if one isn't right, or there would be too many nodes.
func Arrow(to api.Term, from ...api.Term) (api.Term, bool) {
	all := slices.Concat(from, []api.Term{to})
	size := len(from)
	for _, t := range all {
		size += Nodes(t)
		if size > api.MaxNodes || !isRight(t) {
			return api.Term{}, false
		}
	}
	for i, t := range all {
		all[i] = raised(t, i)
	}
	return bound(api.TPi, all[len(from)], all[:len(from)]), true
}

// bound: the term of a kind over types, the first one outermost, with a body; all of them are new, and become its own.
func bound(kind int, body api.Term, types []api.Term) api.Term {
	for _, t := range slices.Backward(types) {
		body = node(kind, t, body)
	}
	return body
}

// node: the term of a kind over others, which are new, and become its own.
func node(kind int, args ...api.Term) api.Term {
	return api.Term{Kind: kind, Args: args}
}
