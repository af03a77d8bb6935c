package text_test

import (
	"math"
	"slices"
	"strings"
	"testing"

	"scholium/api"
	"scholium/text"
)

// P7.2.

func axiom(name string, params int, typ api.Term) api.Decl {
	return api.Decl{Kind: api.DAxiom, Name: name, Params: params, Type: typ}
}

func valued(kind int, name string, params int, typ, value api.Term) api.Decl {
	return api.Decl{Kind: kind, Name: name, Params: params, Type: typ, Value: value}
}

func family(name string, params int, typ api.Term, fixed int, ctors ...api.Ctor) api.Decl {
	return api.Decl{Kind: api.DInd, Name: name, Params: params, Type: typ, Fixed: fixed, Ctors: ctors}
}

var (
	identity = lam(sort(u), lam(tvar(0), tvar(0)))
	ofItself = pi(sort(u), pi(tvar(0), tvar(1)))
	nat      = family("nat", 0, sort(num(1)), 0, api.Ctor{Name: "nat.z", Type: con("nat")}, api.Ctor{Name: "nat.s", Type: pi(con("nat"), con("nat"))})
)

func isDecl(t *testing.T, d api.Decl, want string) {
	t.Helper()
	if got := text.Decl(d); got != want {
		t.Errorf("Decl of %q is %q, not %q", d.Name, short(got), short(want))
	}
}

func TestDecls(t *testing.T) {
	isDecl(t, axiom("a", 0, sort(num(0))), "axiom a 0 (* 0)")
	isDecl(t, axiom("nat.add", 4, con("nat", x)), "axiom nat.add 4 (@ nat u3)")
	isDecl(t, valued(api.DDef, "id", 1, ofItself, identity), `def id 1 (> (* u0) (> #0 #1)) := (\ (* u0) (\ #0 #0))`)
	isDecl(t, valued(api.DThm, "id", 1, ofItself, identity), `thm id 1 (> (* u0) (> #0 #1)) := (\ (* u0) (\ #0 #0))`)
	isDecl(t, valued(api.DOpaque, "x_1", 0, a, app(b, c)), "opaque x_1 0 a := (b c)")
	isDecl(t, nat, "ind nat 0 (* 1) 0 [nat.z nat] [nat.s (> nat nat)]")
	isDecl(t, family("none", 0, sort(num(0)), 0), "ind none 0 (* 0) 0")
	isDecl(t, family("list", 2, pi(sort(u), sort(u)), 1, api.Ctor{Name: "nil", Type: pi(sort(u), app(con("list", u), tvar(0)))}), "ind list 2 (> (* u0) (* u0)) 1 [nil (> (* u0) ((@ list u0) #0))]")
}

// TestDeclsThatAreNotFormed: only the Kind and the terms have to be right.
func TestDeclsThatAreNotFormed(t *testing.T) {
	isDecl(t, axiom("A b", -7, a), "axiom A b -7 a")
	isDecl(t, axiom("", math.MaxInt, tvar(3)), "axiom  9223372036854775807 #3")
	isDecl(t, axiom("\xff\x00", math.MinInt, sort(x)), "axiom \xff\x00 -9223372036854775808 (* u3)")
	isDecl(t, valued(api.DDef, longName+longName, 5, tvar(anyNumber-1), sort(x)), "def "+longName+longName+" 5 #1125899906842623 := (* u3)")
	isDecl(t, family("n", 100, tvar(0), -1, api.Ctor{Name: "(", Type: tvar(1)}, api.Ctor{Type: tvar(2)}), "ind n 100 #0 -1 [( #1] [ #2]")
	many := slices.Repeat([]api.Ctor{{Name: "c", Type: a}}, 1000)
	isDecl(t, family("n", 0, a, 17, many...), "ind n 0 a 17"+strings.Repeat(" [c a]", 1000))

	// What a Kind doesn't have isn't looked at.
	odd := api.Decl{Kind: api.DAxiom, Name: "a", Type: a, Value: api.Term{Kind: 9}, Fixed: 3, Ctors: []api.Ctor{{Name: "c"}}}
	isDecl(t, odd, "axiom a 0 a")
	odd.Value = b
	isDecl(t, odd, "axiom a 0 a")
	odd.Kind = api.DThm
	isDecl(t, odd, "thm a 0 a := b")
	odd.Kind, odd.Value, odd.Ctors[0].Type = api.DInd, api.Term{}, c
	isDecl(t, odd, "ind a 0 a 3 [c c]")
	odd.Value = endless()[0]
	isDecl(t, odd, "ind a 0 a 3 [c c]")
}

// TestDeclsOfTerms: a declaration's terms have the texts of terms.
func TestDeclsOfTerms(t *testing.T) {
	for _, s := range append(small(4), ofNodes(2000), ofNodes(1999), ofBytes(20001)) {
		written := termBy(s)
		isDecl(t, axiom("d", 1, s), "axiom d 1 "+written)
		isDecl(t, valued(api.DOpaque, "d", 1, s, a), "opaque d 1 "+written+" := a")
		isDecl(t, valued(api.DDef, "d", 1, a, s), "def d 1 a := "+written)
		isDecl(t, family("d", 1, s, 2, api.Ctor{Name: "c", Type: s}), "ind d 1 "+written+" 2 [c "+written+"]")
	}
}

func TestDeclsOfWrongTerms(t *testing.T) {
	fine := api.Ctor{Name: "c", Type: a}
	for _, s := range wrong() {
		odd := api.Ctor{Name: "o", Type: s}
		for _, d := range []api.Decl{
			axiom("d", 0, s),
			valued(api.DDef, "d", 0, s, a), valued(api.DThm, "d", 0, s, a), valued(api.DOpaque, "d", 0, s, a),
			valued(api.DDef, "d", 0, a, s), valued(api.DThm, "d", 0, a, s), valued(api.DOpaque, "d", 0, a, s),
			valued(api.DDef, "d", 0, s, s),
			family("d", 0, s, 0), family("d", 0, s, 0, fine),
			family("d", 0, a, 0, odd), family("d", 0, a, 0, odd, fine), family("d", 0, a, 0, fine, odd), family("d", 0, a, 0, fine, odd, fine),
		} {
			if got := text.Decl(d); got != "" {
				t.Fatalf("Decl of the kind %d with a wrong term is %q", d.Kind, short(got))
			}
		}
	}
}

func TestDeclsOfNoKind(t *testing.T) {
	for _, kind := range []int{0, -1, 6, 7, 8, 100, 257, 1 << 32, 1<<32 + 1, math.MinInt, math.MaxInt} {
		for _, d := range []api.Decl{axiom("d", 0, a), valued(kind, "d", 0, a, b), nat} {
			d.Kind = kind
			isDecl(t, d, "")
		}
	}
	isDecl(t, api.Decl{}, "")
}
