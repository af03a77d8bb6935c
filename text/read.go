package text

import (
	"strconv"
	"strings"

	"scholium/api"
	"scholium/level"
	"scholium/term"
)

// part is a part of a text: a word, or a group, which has one part at least.
type part struct {
	word  string
	parts []part
}

func (p part) isWord() bool { return len(p.parts) == 0 }

// read: the part at the beginning of a text; an empty word, if the text is too long.
//
// Whatever the text is, something is read out of it: who asks writes what that makes, and holds it against the text.
func read(s string) part {
	if len(s) > longest {
		return part{}
	}
	p, _ := firstPart(s)
	return p
}

// firstPart: the part at the beginning of a text, and what stands behind it.
func firstPart(s string) (part, string) {
	if !strings.HasPrefix(s, "(") {
		return firstWord(s)
	}
	var parts []part
	for s != "" && s[0] != ')' {
		// The byte ahead of a part is the one that opens the group, or a blank.
		var p part
		p, s = firstPart(s[1:])
		parts = append(parts, p)
	}
	return part{parts: parts}, strings.TrimPrefix(s, ")")
}

// firstWord: the word at the beginning of a text, and what stands behind it.
func firstWord(s string) (part, string) {
	end := strings.IndexAny(s, " ()")
	if end < 0 {
		end = len(s)
	}
	return part{word: s[:end]}, s[end:]
}

// levelOf: the level that a part tells; one that isn't right, if it tells none.
func levelOf(p part) api.Level {
	if p.isWord() {
		if n, ok := strings.CutPrefix(p.word, "u"); ok {
			return level.Param(number(n))
		}
		return level.Num(number(p.word))
	}
	l := api.Level{Args: each(p.parts[1:], levelOf)}
	switch p.parts[0].word {
	case "+":
		l.Kind = api.LSucc
	case "|":
		l.Kind = api.LMax
	case "?":
		l.Kind = api.LIMax
	}
	return l
}

// termOf: the term that a part tells; one that isn't right, if it tells none.
func termOf(p part) api.Term {
	if p.isWord() {
		if n, ok := strings.CutPrefix(p.word, "#"); ok {
			return term.Var(number(n))
		}
		return term.Const(p.word)
	}
	behind := p.parts[1:]
	switch p.parts[0].word {
	case "*":
		return api.Term{Kind: api.TSort, Levels: each(behind, levelOf)}
	case "@":
		return constOf(behind)
	case `\`:
		return node(api.TLam, each(behind, termOf))
	case ">":
		return node(api.TPi, each(behind, termOf))
	case "=":
		return node(api.TLet, each(behind, termOf))
	}
	return applied(each(p.parts, termOf))
}

// constOf: the constant that a name and levels tell.
func constOf(parts []part) api.Term {
	if len(parts) == 0 {
		return api.Term{}
	}
	return term.Const(parts[0].word, each(parts[1:], levelOf)...)
}

// applied: the first one of terms applied to the others, which are new, and become its own.
func applied(list []api.Term) api.Term {
	out := list[0]
	for _, arg := range list[1:] {
		out = node(api.TApp, []api.Term{out, arg})
	}
	return out
}

// node: the term of a kind over others, which are new, and become its own.
func node(kind int, args []api.Term) api.Term {
	return api.Term{Kind: kind, Args: args}
}

// number: the number that digits tell; below 0, which no node has, if they tell none.
func number(digits string) int {
	n, err := strconv.Atoi(digits)
	if err != nil {
		return -1
	}
	return n
}
