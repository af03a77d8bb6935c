package arena

import "scholium/api"

// key is a node as far as it is held against others: two terms are one just if their keys are.
type key struct {
	kind, n int
	name    string
	levels  string // as bytes, since lists can't be held against each other in a key
	args    [3]int // numbers of nodes; 0 behind the last one
}

// node is a node that is held.
type node struct {
	key
	loose int // how many variables it needs
}

// binder: the place of the one among the Args of a kind that stands in one binder more; -1, if none does.
func binder(kind int) int {
	switch kind {
	case api.TLam, api.TPi:
		return 1
	case api.TLet:
		return 2
	}
	return -1
}

// levelBytes: right levels, each node ahead of its Args, in three bytes a node: its Kind, its N and how many Args it has. So no two lists have the same bytes, and each number has room in one.
func levelBytes(list []api.Level) []byte {
	var b []byte
	for _, l := range list {
		b = append(b, byte(l.Kind), byte(l.N), byte(len(l.Args)))
		b = append(b, levelBytes(l.Args)...)
	}
	return b
}

// levelsOf: the levels of bytes, in memory of their own.
func levelsOf(s string) []api.Level {
	var list []api.Level
	for s != "" {
		var l api.Level
		l, s = firstLevel(s)
		list = append(list, l)
	}
	return list
}

// firstLevel: the level at the beginning of bytes, and what stands behind it.
func firstLevel(s string) (api.Level, string) {
	l := api.Level{Kind: int(s[0]), N: int(s[1])}
	args := int(s[2])
	s = s[3:]
	for range args {
		var arg api.Level
		arg, s = firstLevel(s)
		l.Args = append(l.Args, arg)
	}
	return l, s
}
