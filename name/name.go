// Package name is layer 1: names of declarations.
package name

import (
	"slices"
	"strconv"
	"strings"

	"scholium/api"
)

// Right: is it a name?
func Right(s string) bool {
	// The bound comes first: a longer text is never cut into parts.
	if len(s) > api.MaxName {
		return false
	}
	for _, part := range strings.Split(s, ".") {
		if !isPart(part) {
			return false
		}
	}
	return true
}

// isPart: is it a part, of whatever length?
func isPart(part string) bool {
	// Bytes above 127 come as runes above 127, and are never plain.
	odd := strings.IndexFunc(part, func(r rune) bool { return !isPlain(r) })
	return part != "" && odd < 0 && !isDigit(rune(part[0]))
}

func isPlain(r rune) bool {
	return r >= 'a' && r <= 'z' || isDigit(r) || r == '_'
}

func isDigit(r rune) bool {
	return r >= '0' && r <= '9'
}

// Parts: a name's parts; nothing of others.
func Parts(s string) []string {
	if !Right(s) {
		return nil
	}
	return strings.Split(s, ".")
}

// Join: the name of parts, each a name, and true; an empty text and false, if they make none.
func Join(parts ...string) (string, bool) {
	size := -1 // no dot stands ahead of the first part
	for _, part := range parts {
		size += 1 + len(part)
		if !Right(part) || size > api.MaxName {
			return "", false
		}
	}
	return strings.Join(parts, "."), len(parts) > 0
}

// Parent: the name without its last part and the dot; an empty text, if it has one part, or is none.
func Parent(s string) string {
	if !Right(s) {
		return ""
	}
	dot := strings.LastIndexByte(s, '.')
	if dot < 0 {
		return ""
	}
	return s[:dot]
}

// Last: a name's last part; an empty text of others.
func Last(s string) string {
	if !Right(s) {
		return ""
	}
	return s[strings.LastIndexByte(s, '.')+1:]
}

// Under: is a name another one, or does it begin with that and a dot?
func Under(s, top string) bool {
	if !Right(s) || !Right(top) {
		return false
	}
	return s == top || strings.HasPrefix(s, top+".")
}

// Fresh: the name, if it isn't taken; else the first one of its beginning, _ and a number that isn't; an empty text of no name.
func Fresh(s string, taken ...string) string {
	if !Right(s) {
		return ""
	}
	// A map, since each number that is tried asks once more whether a name is taken.
	seen := make(map[string]struct{}, len(taken))
	for _, t := range taken {
		seen[t] = struct{}{}
	}
	isTaken := func(s string) bool {
		_, ok := seen[s]
		return ok
	}
	fresh := s
	// This ends: no two numbers make one name, so each taken one stops one number at most.
	for n := 1; isTaken(fresh); n++ {
		fresh = numbered(s, n)
	}
	return fresh
}

// numbered: as much of a name's beginning as there is room for, _ and a number.
func numbered(s string, n int) string {
	end := "_" + strconv.Itoa(n)
	room := api.MaxName - len(end)
	if len(s) > room {
		// A dot that comes to stand at the end would leave a part that is only _ and the number.
		s = strings.TrimRight(s[:room], ".")
	}
	return s + end
}

// Sort: texts in order, each once, in a list of their own.
func Sort(l []string) []string {
	sorted := append([]string(nil), l...)
	slices.Sort(sorted)
	return slices.Compact(sorted)
}
