package arena_test

import (
	"math"
	"math/rand"
	"slices"
	"strings"
	"testing"
	"unsafe"

	"scholium/api"
	"scholium/arena"
	"scholium/term"
)

// P5.3.

// TestOneNumber: two terms have one number just if they are one.
func TestOneNumber(t *testing.T) {
	ar := made(t, 1<<20)
	list := small(4)
	dice := rand.New(rand.NewSource(4))
	for range 1000 {
		list = append(list, thrown(dice, 1+dice.Intn(8)))
	}
	ids := make([]int, len(list))
	for i, s := range list {
		ids[i] = isHeld(t, ar, s)
	}
	for i, s := range list {
		for j, o := range list {
			if (ids[i] == ids[j]) != equal(s, o) {
				t.Fatalf("%s has the number %d, %s has %d", show(s), ids[i], show(o), ids[j])
			}
		}
		if again := isHeld(t, ar, clone(s)); again != ids[i] {
			t.Fatalf("%s had the number %d, and has %d", show(s), ids[i], again)
		}
	}
}

func TestNumbersOfAlike(t *testing.T) {
	for _, c := range [][2]api.Term{
		{tvar(0), tvar(1)},
		{tvar(0), tvar(1 << 32)},
		{tvar(1), tvar(1<<49 + 1)},
		{tvar(100), tvar(356)},
		{a, con("a.b")},
		{a, con("aa")},
		{con("a_b"), con("a.b")},
		{a, con("a", num(0))},
		{con("a", u), con("a", v)},
		{con("a", u), con("b", u)},
		{con("a", u), con("a", num(0))},
		{con("a", u), con("a", u, u)},
		{con("a", u, v), con("a", v, u)},
		{con("a", succ(u), v), con("a", u, succ(v))},
		{con("a", most(u, v)), con("a", u, v)},
		{con("a", most(u, v), w), con("a", u, most(v, w))},
		{con("a", most(u, v), w, x), con("a", u, most(v, w), x)},
		{con("a", u, u, u), con("a", u, u, u, u)},
		{con("a", succ(succ(u))), con("a", succ(u), succ(u))},
		{sort(most(u, v)), sort(most(v, u))},
		{sort(most(u, v)), sort(imax(u, v))},
		{sort(most(u, u)), sort(u)},
		{sort(most(most(u, v), w)), sort(most(u, most(v, w)))},
		{sort(imax(u, num(0))), sort(num(0))},
		{sort(succ(num(1))), sort(num(2))},
		{sort(num(1)), sort(v)},
		{sort(u), con("u", u)},
		{lam(a, b), pi(a, b)},
		{lam(a, b), app(a, b)},
		{lam(a, b), lam(b, a)},
		{let(a, b, c), let(b, a, c)},
		{let(a, b, c), let(a, c, b)},
		{app(app(a, b), c), app(a, app(b, c))},
		{lam(a, app(b, tvar(0))), b},
		{app(lam(a, tvar(0)), b), b},
		{app(tvar(1), tvar(2)), app(tvar(2), tvar(1))},
		{app(tvar(1), tvar(12)), app(tvar(11), tvar(2))},
	} {
		ar := made(t, 100)
		one, other := isHeld(t, ar, c[0]), isHeld(t, ar, c[1])
		if one == other || isHeld(t, ar, c[0]) != one || isHeld(t, ar, c[1]) != other {
			t.Errorf("%s and %s have the numbers %d and %d", show(c[0]), show(c[1]), one, other)
		}
		for id, want := range map[int]api.Term{one: c[0], other: c[1]} {
			if got, ok := ar.Term(id); !ok || !equal(got, want) {
				t.Errorf("Term(%d) is %s, not %s", id, show(got), show(want))
			}
		}
	}
	// A nil list and an empty one are the same.
	ar := made(t, 100)
	empty := api.Term{Kind: api.TConst, Name: "a", Levels: []api.Level{}, Args: []api.Term{}}
	none := sort(api.Level{Kind: api.LNum, Args: []api.Level{}})
	if isHeld(t, ar, empty) != isHeld(t, ar, a) || isHeld(t, ar, sort(num(0))) != isHeld(t, ar, none) {
		t.Error("an empty list isn't the same as a nil one")
	}
}

// TestNumbersStay: what is held later, or can't be held, changes no number.
func TestNumbersStay(t *testing.T) {
	dice := rand.New(rand.NewSource(5))
	for _, room := range []int{50, 500, 1 << 20} {
		ar := made(t, room)
		var terms []api.Term
		for range 300 {
			ar.Hold(thrown(dice, 1+dice.Intn(30)))
			ar.Hold(app(a, api.Term{}))
			for id := len(terms) + 1; id <= ar.Count(); id++ {
				s, _ := ar.Term(id)
				terms = append(terms, s)
			}
			if len(terms) != ar.Count() {
				t.Fatalf("%d were held, and now %d", len(terms), ar.Count())
			}
			for range 20 {
				id := 1 + dice.Intn(len(terms))
				if s, ok := ar.Term(id); !ok || !equal(s, terms[id-1]) || isHeld(t, ar, s) != id {
					t.Fatalf("%d was the number of %s, and is that of %s", id, show(terms[id-1]), show(s))
				}
			}
		}
	}
}

// TestArenasApart: one arena has nothing of another one.
func TestArenasApart(t *testing.T) {
	one, other := made(t, 10), made(t, 10)
	if isHeld(t, one, a) != 1 || isHeld(t, other, b) != 1 || isHeld(t, one, app(b, a)) != 3 || isHeld(t, other, app(b, a)) != 3 {
		t.Error("the numbers aren't those of the arena")
	}
	first, _ := one.Term(1)
	second, _ := other.Term(1)
	if !equal(first, a) || !equal(second, b) || one.Count() != 3 || other.Count() != 3 || one.Arg(3, 0) != 2 || other.Arg(3, 0) != 1 {
		t.Error("the terms aren't those of the arena")
	}
}

// clone is a term in memory of its own.
func clone(t api.Term) api.Term { return roomy([]api.Term{t})[0] }

var (
	mark      = api.Term{Kind: 77, N: 77, Name: "mark"}
	markLevel = api.Level{Kind: 77, N: 77}
)

// roomy is a list of terms in memory of its own, with marks behind each list's length.
func roomy(list []api.Term) []api.Term {
	out := make([]api.Term, len(list), len(list)+2)
	for i, t := range list {
		t.Levels, t.Args = roomyLevels(t.Levels), roomy(t.Args)
		out[i] = t
	}
	out[:cap(out)][len(out)], out[:cap(out)][len(out)+1] = mark, mark
	return out
}

func roomyLevels(list []api.Level) []api.Level {
	out := make([]api.Level, len(list), len(list)+2)
	for i, l := range list {
		l.Args = roomyLevels(l.Args)
		out[i] = l
	}
	out[:cap(out)][len(out)], out[:cap(out)][len(out)+1] = markLevel, markLevel
	return out
}

// isRoomy: do lists still have their marks?
func isRoomy(list []api.Term) bool {
	for _, t := range list {
		if !isRoomy(t.Args) || !isRoomyLevels(t.Levels) {
			return false
		}
	}
	behind := list[len(list):cap(list)]
	return len(behind) == 2 && equal(behind[0], mark) && equal(behind[1], mark)
}

func isRoomyLevels(list []api.Level) bool {
	for _, l := range list {
		if !isRoomyLevels(l.Args) {
			return false
		}
	}
	behind := list[len(list):cap(list)]
	return len(behind) == 2 && equalLevels(behind[0], markLevel) && equalLevels(behind[1], markLevel)
}

// places gathers where lists stand, spare room too.
type places struct {
	terms  map[*api.Term]bool
	levels map[*api.Level]bool
}

func newPlaces() places {
	return places{map[*api.Term]bool{}, map[*api.Level]bool{}}
}

// gather tells whether lists share no memory with what was gathered, nor with one another.
func (p places) gather(list []api.Term) bool {
	all := list[:cap(list)]
	for i := range all {
		if p.terms[&all[i]] {
			return false
		}
		p.terms[&all[i]] = true
	}
	for _, t := range list {
		if !p.gather(t.Args) || !p.gatherLevels(t.Levels) {
			return false
		}
	}
	return true
}

func (p places) gatherLevels(list []api.Level) bool {
	all := list[:cap(list)]
	for i := range all {
		if p.levels[&all[i]] {
			return false
		}
		p.levels[&all[i]] = true
	}
	for _, l := range list {
		if !p.gatherLevels(l.Args) {
			return false
		}
	}
	return true
}

func overwrite(list []api.Term) {
	all := list[:cap(list)]
	for i := range all {
		overwrite(all[i].Args)
		overwriteLevels(all[i].Levels)
		all[i] = api.Term{Kind: 55, N: 55, Name: "gone"}
	}
}

func overwriteLevels(list []api.Level) {
	all := list[:cap(list)]
	for i := range all {
		overwriteLevels(all[i].Args)
		all[i] = api.Level{Kind: 55, N: 55}
	}
}

// handed are terms that are handed in.
func handed() []api.Term {
	same := app(lam(sort(most(u, v)), tvar(0)), con("a", u, v, imax(w, succ(x))))
	l := []api.Term{a, sort(u), con("a", u), app(a, b), let(a, sort(succ(u)), tvar(0)), same, app(same, same), let(same, same, same), pi(a, tvar(any))}
	dice := rand.New(rand.NewSource(6))
	for range 300 {
		l = append(l, thrown(dice, 1+dice.Intn(40)))
	}
	return l
}

func TestHandedInIsNeitherChangedNorKept(t *testing.T) {
	ar := made(t, 1<<20)
	for _, s := range handed() {
		in := roomy([]api.Term{s})
		id := isHeld(t, ar, in[0])
		if !equal(in[0], s) || !isRoomy(in) {
			t.Fatalf("Hold has changed %s", show(s))
		}
		if got := isHeld(t, ar, in[0]); got != id || !equal(in[0], s) || !isRoomy(in) {
			t.Fatalf("Hold of one that is held has changed %s", show(s))
		}
		overwrite(in)
		if got, ok := ar.Term(id); !ok || !equal(got, s) {
			t.Fatalf("Term of %s changes with what was handed in: %s", show(s), show(got))
		}
		if again := isHeld(t, ar, s); again != id {
			t.Fatalf("the number of %s changes with what was handed in", show(s))
		}
	}
	// What can't be held is neither changed, nor kept.
	full := made(t, 2)
	for _, s := range slices.Concat(handed(), wrong()) {
		in := roomy([]api.Term{s})
		full.Hold(in[0])
		if !equal(in[0], s) || !isRoomy(in) {
			t.Fatalf("Hold without room has changed %s", show(s))
		}
		overwrite(in)
	}
	if got, ok := full.Term(2); !ok || !equal(got, sort(u)) {
		t.Fatalf("the second one held is %s", show(got))
	}
}

// TestLongTextIsNotKept: of a name that is a piece of a long text only the piece is kept.
func TestLongTextIsNotKept(t *testing.T) {
	long := strings.Repeat("nat.", 1<<10)
	s := con(long[:7])
	ar := made(t, 10)
	got, _ := ar.Term(isHeld(t, ar, s))
	if got.Name != "nat.nat" || unsafe.StringData(got.Name) == unsafe.StringData(long) {
		t.Errorf("the name is %q, of the text that was handed in", got.Name)
	}
	if isHeld(t, ar, con("nat.nat")) != 1 {
		t.Error("a name is another one in other memory")
	}
}

func TestAnswersAreNew(t *testing.T) {
	ar := made(t, 1<<20)
	for _, s := range handed() {
		in := roomy([]api.Term{s})
		id := isHeld(t, ar, in[0])
		seen := newPlaces()
		seen.gather(in)
		first, _ := ar.Term(id)
		second, _ := ar.Term(id)
		if !seen.gather([]api.Term{first}) || !seen.gather([]api.Term{second}) {
			t.Fatalf("Term of %s shares memory", show(s))
		}
		count := ar.Count()
		overwrite([]api.Term{first})
		if again, ok := ar.Term(id); !ok || !equal(again, s) || !equal(second, s) || !equal(in[0], s) || !isRoomy(in) {
			t.Fatalf("to change the answer changes more than it: %s is %s", show(s), show(again))
		}
		if again := isHeld(t, ar, s); again != id || ar.Count() != count {
			t.Fatalf("to change the answer changes the number of %s", show(s))
		}
	}
}

// P1: every call ends, and none panics.

func TestEveryCallEnds(t *testing.T) {
	odd := []int{0, 1, 2, 3, -1, 1 << 20, 1 << 32, math.MinInt, math.MaxInt}
	none, _ := arena.New(0)
	full := made(t, 1)
	isHeld(t, full, a)
	for what, ar := range map[string]*arena.Arena{"what New answers beside an error": none, "an arena without a beginning": new(arena.Arena), "a full arena": full} {
		for _, s := range []api.Term{b, app(b, b), ofNodes(1999)} {
			if id, err := ar.Hold(s); id != 0 || err != api.ErrFull {
				t.Errorf("Hold in %s is %d, %v", what, id, err)
			}
		}
		for _, s := range slices.Concat(endless(), great(), wrong()) {
			if id, err := ar.Hold(s); id != 0 || err != api.ErrForm {
				t.Errorf("Hold of a wrong one in %s is %d, %v", what, id, err)
			}
		}
		for _, id := range odd {
			for _, at := range odd {
				ar.Arg(id, at)
			}
		}
		if ar == full {
			continue
		}
		for _, id := range odd {
			s, ok := ar.Term(id)
			if ok || !isNothing(s) || ar.Kind(id)+ar.Loose(id)+ar.Shared(id)+ar.Arg(id, 0)+ar.Count() != 0 {
				t.Errorf("%s has %d", what, id)
			}
		}
	}
}

// TestAnswersOfDeep: the deepest terms, all parts of which are held.
func TestAnswersOfDeep(t *testing.T) {
	ar := made(t, 1<<20)
	deep := tvar(any - 1)
	for range 999 {
		deep = lam(a, deep)
	}
	id := isHeld(t, ar, deep)
	if got, ok := ar.Term(id); !ok || !equal(got, deep) || ar.Shared(id) != 1001 || ar.Loose(id) != term.Loose(deep) || ar.Loose(id) != any-999 {
		t.Errorf("Term of a deep one is %s, %v; it leads to %d, and is loose below %d", show(got), ok, ar.Shared(id), ar.Loose(id))
	}
}
