package text

import (
	"strconv"
	"strings"

	"scholium/api"
)

// group: the text of a group of parts.
func group(parts ...string) string { return "(" + strings.Join(parts, " ") + ")" }

// signed: the text of a group that begins with a sign.
func signed(sign string, parts ...string) string {
	return group(append([]string{sign}, parts...)...)
}

// levelText: a right level's text.
func levelText(l api.Level) string {
	args := each(l.Args, levelText)
	switch l.Kind {
	case api.LNum:
		return strconv.Itoa(l.N)
	case api.LParam:
		return "u" + strconv.Itoa(l.N)
	case api.LSucc:
		return signed("+", args...)
	case api.LMax:
		return signed("|", args...)
	}
	return signed("?", args...)
}

// termText: a right term's text.
func termText(t api.Term) string {
	switch t.Kind {
	case api.TVar:
		return "#" + strconv.Itoa(t.N)
	case api.TSort:
		return signed("*", levelText(t.Levels[0]))
	case api.TConst:
		return constText(t.Name, t.Levels)
	case api.TApp:
		return group(spineTexts(t)...)
	case api.TLam:
		return signed(`\`, each(t.Args, termText)...)
	case api.TPi:
		return signed(">", each(t.Args, termText)...)
	}
	return signed("=", each(t.Args, termText)...)
}

// constText: the text of a constant of a name at levels.
func constText(name string, levels []api.Level) string {
	if len(levels) == 0 {
		return name
	}
	return signed("@", append([]string{name}, each(levels, levelText)...)...)
}

// spineTexts: the text of the head of a term's spine, and those of what it is applied to. (Layer 4's Spine would copy all of it, and once more within each part.)
func spineTexts(t api.Term) []string {
	if t.Kind != api.TApp {
		return []string{termText(t)}
	}
	return append(spineTexts(t.Args[0]), termText(t.Args[1]))
}

// each: what comes of each one of a list, in a list of its own.
func each[A, B any](list []A, of func(A) B) []B {
	var out []B
	for _, one := range list {
		out = append(out, of(one))
	}
	return out
}
