package term

import (
	"iter"

	"scholium/api"
	"scholium/level"
)

const (
	// Beyond these bounds the document promises nothing: a node has more than 32 bytes, and an answer at most 2^31.
	mostNodes = 1 << 26
	mostDeep  = 1 << 17
)

// place is where a node stands in a term.
type place struct {
	deep    int // how many nodes it stands in
	binders int // how many of them bind a variable for it
}

// nodes: the nodes of a term, each ahead of its Args, and where they stand.
func nodes(t api.Term) iter.Seq2[api.Term, place] {
	return func(yield func(api.Term, place) bool) {
		walk(t, place{}, yield)
	}
}

// walk hands out the nodes of a term that stands at a place, and tells whether more are asked for.
func walk(t api.Term, at place, yield func(api.Term, place) bool) bool {
	if !yield(t, at) {
		return false
	}
	for i, arg := range t.Args {
		if !walk(arg, place{at.deep + 1, at.binders + binds(t, i)}, yield) {
			return false
		}
	}
	return true
}

// binds: how many variables a node binds for one of its Args.
func binds(t api.Term, arg int) int {
	switch t.Kind {
	case api.TLam, api.TPi, api.TLet:
		if arg == len(t.Args)-1 {
			return 1
		}
	}
	return 0
}

// count: how many nodes a term has, those of its levels too; most + 1, if it has more than most, or they stand deeper within one another than the bound.
func count(t api.Term, most int) int {
	n := 0
	for node, at := range nodes(t) {
		n++
		n += countLevels(node.Levels, most-n, mostDeep)
		if n > most || at.deep > mostDeep {
			return most + 1
		}
	}
	return n
}

// countLevels: how many nodes levels have; most + 1, if they have more than most, or stand deeper within one another than deep. (Layer 3's Nodes doesn't tell of levels that aren't right how many they have.)
func countLevels(list []api.Level, most, deep int) int {
	n := 0
	for _, l := range list {
		if n > most || deep == 0 {
			return most + 1
		}
		n++
		n += countLevels(l.Args, most-n, deep-1)
	}
	return n
}

// isBounded: is a term, right or not, within the document's bounds? (One that stands within itself isn't.)
func isBounded(t api.Term) bool { return count(t, mostNodes) <= mostNodes }

// own: a term, right or not, in memory of its own; noughts in place of one beyond the document's bounds.
func own(t api.Term) api.Term {
	if !isBounded(t) {
		return api.Term{}
	}
	return remade(t, 0, func(*api.Term, int) {})
}

// raised: a term in memory of its own, with so much added to its loose variables.
func raised(t api.Term, by int) api.Term {
	return remade(t, 0, func(node *api.Term, binders int) {
		if node.Kind == api.TVar && node.N >= binders {
			node.N += by
		}
	})
}

// remade: a term that stands in so many binders, in memory of its own; each node, its Args aside, was changed by how many it stands in.
func remade(t api.Term, binders int, change func(node *api.Term, binders int)) api.Term {
	out := api.Term{Kind: t.Kind, N: t.N, Name: t.Name, Levels: each(t.Levels, ownLevel)}
	change(&out, binders)
	if len(t.Args) > 0 {
		out.Args = make([]api.Term, len(t.Args))
	}
	for i, arg := range t.Args {
		out.Args[i] = remade(arg, binders+binds(t, i), change)
	}
	return out
}

// ownLevel: a level in memory of its own: the Max of one is that one, and new.
func ownLevel(l api.Level) api.Level { return level.Max(l) }

// each: what comes of each one of a list, in a list of its own.
func each[T any](list []T, of func(T) T) []T {
	var out []T
	for _, one := range list {
		out = append(out, of(one))
	}
	return out
}
