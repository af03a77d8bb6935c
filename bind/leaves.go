package bind

import (
	"scholium/api"
	"scholium/term"
)

// leaf is a node without Args, and how many binders of its term it stands in.
type leaf struct {
	api.Term
	binders int
}

// loose: by how many binders out of its term a loose variable stands, and true; 0 and false of other leaves.
func (l leaf) loose() (int, bool) {
	if l.Kind != api.TVar || l.N < l.binders {
		return 0, false
	}
	return l.N - l.binders, true
}

// own: the leaf in memory of its own.
func (l leaf) own() api.Term {
	switch l.Kind {
	case api.TVar:
		return term.Var(l.N)
	case api.TSort:
		return term.Sort(l.Levels[0])
	}
	return term.Const(l.Name, l.Levels...)
}

// place: a right term as it is in the place of the leaf, in memory of its own.
func (l leaf) place(t api.Term) api.Term {
	out, _ := with(t, raised(l.binders, 0))
	return out
}

// raised tells what stands in the place of a leaf where so much is added to the loose variables from one on.
func raised(by, from int) func(leaf) api.Term {
	return func(l leaf) api.Term {
		if n, ok := l.loose(); ok && n >= from {
			return term.Var(l.N + by)
		}
		return l.own()
	}
}

// with: a right term with what is told in the place of each leaf, in memory of its own, and true; noughts and false, if there would be too many nodes.
func with(t api.Term, put func(leaf) api.Term) (api.Term, bool) {
	m := maker{put, api.MaxNodes}
	out := m.made(t, 0)
	if m.room < 0 {
		return api.Term{}, false
	}
	return out, true
}

// maker makes a term of another one.
type maker struct {
	put  func(leaf) api.Term
	room int // how many nodes may be made yet; below 0, once there are too many
}

// made: what comes of a part that stands in so many binders.
func (m *maker) made(t api.Term, binders int) api.Term {
	if len(t.Args) == 0 {
		out := m.put(leaf{t, binders})
		m.room -= term.Nodes(out)
		return out
	}
	m.room--
	out := api.Term{Kind: t.Kind, Args: make([]api.Term, len(t.Args))}
	for i, arg := range t.Args {
		// Far more might be made than may be: a part as great as a term in the place of each leaf.
		if m.room < 0 {
			break
		}
		out.Args[i] = m.made(arg, binders+binds(t, i))
	}
	return out
}

// count: how many times loose variables of some numbers are used in a right term.
func count(t api.Term, is func(loose int) bool) int { return countIn(t, 0, is) }

// countIn: how many times they are used in a part that stands in so many binders.
func countIn(t api.Term, binders int, is func(loose int) bool) int {
	if n, ok := (leaf{t, binders}).loose(); ok && is(n) {
		return 1
	}
	sum := 0
	for i, arg := range t.Args {
		sum += countIn(arg, binders+binds(t, i), is)
	}
	return sum
}

// binds: how many variables a node of a right term binds for one of its Args.
func binds(t api.Term, arg int) int {
	switch t.Kind {
	case api.TLam, api.TPi, api.TLet:
		if arg == len(t.Args)-1 {
			return 1
		}
	}
	return 0
}
