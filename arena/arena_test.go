package arena_test

import (
	"math"
	"math/rand"
	"slices"
	"strings"
	"testing"

	"scholium/api"
	"scholium/arena"
	"scholium/term"
)

// P5.1, New.

func TestNew(t *testing.T) {
	for _, most := range []int{0, -1, -2, 1<<20 + 1, 1<<20 + 2, 1 << 21, 1 << 32, 1<<32 + 1, 1<<63 - 1<<20, math.MinInt, math.MinInt + 1, math.MaxInt} {
		if ar, err := arena.New(most); ar != nil || err != api.ErrRange {
			t.Errorf("New(%d) is %v, %v", most, ar, err)
		}
	}
	for _, most := range []int{1, 2, 3, 100, 1<<20 - 1, 1 << 20} {
		ar := made(t, most)
		if ar.Count() != 0 {
			t.Errorf("New(%d) holds %d", most, ar.Count())
		}
		hasNothing(t, ar)
	}
}

// TestGreatest: an arena holds as many nodes as it may, and no more.
func TestGreatest(t *testing.T) {
	for _, most := range []int{1, 1000, 1<<20 - 1, 1 << 20} {
		ar := made(t, most)
		for n := range most {
			if id, err := ar.Hold(tvar(n)); id != n+1 || err != api.OK {
				t.Fatalf("Hold of the variable %d of %d is %d, %v", n, most, id, err)
			}
		}
		for _, s := range []api.Term{tvar(most), a, app(tvar(0), tvar(0))} {
			if id, err := ar.Hold(s); id != 0 || err != api.ErrFull {
				t.Errorf("Hold of one more than %d is %d, %v", most, id, err)
			}
		}
		for _, n := range []int{0, most / 2, most - 1} {
			if id, err := ar.Hold(tvar(n)); id != n+1 || err != api.OK || ar.Loose(id) != n+1 {
				t.Errorf("Hold again of the variable %d of %d is %d, %v", n, most, id, err)
			}
		}
		if ar.Count() != most {
			t.Errorf("%d of %d are held", ar.Count(), most)
		}
	}
}

// P5.1, Hold and Term.

func TestHoldInOrder(t *testing.T) {
	ar := made(t, 100)
	for _, c := range []struct {
		t         api.Term
		id, count int
	}{
		{tvar(3), 1, 1},
		{tvar(3), 1, 1},
		{a, 2, 2},
		{con("a", u), 3, 3},
		{app(a, b), 5, 5},            // b is 4
		{b, 4, 5},                    //
		{app(b, a), 6, 6},            //
		{lam(a, b), 7, 7},            //
		{pi(a, b), 8, 8},             //
		{let(c, tvar(0), a), 11, 11}, // c is 9, the variable is 10
		{tvar(0), 10, 11},
		{c, 9, 11},
		{let(c, a, tvar(0)), 12, 12},
		{app(app(sort(u), sort(v)), app(sort(w), sort(x))), 19, 19}, // 13 and 14, 15; 16 and 17, 18
		{app(sort(u), sort(v)), 15, 19},
		{app(sort(w), sort(x)), 18, 19},
		{sort(x), 17, 19},
		{app(app(sort(w), sort(x)), app(sort(w), sort(x))), 20, 20},
		{lam(pi(tvar(7), tvar(8)), tvar(7)), 24, 24}, // 21 and 22, 23
		{tvar(8), 22, 24},
		{pi(tvar(7), tvar(8)), 23, 24},
		{sort(num(0)), 25, 25},
		{sort(num(1)), 26, 26},
		{sort(num(0)), 25, 26},
	} {
		id, err := ar.Hold(c.t)
		if id != c.id || err != api.OK || ar.Count() != c.count {
			t.Fatalf("Hold(%s) is %d, %v, with %d held; not %d, with %d", show(c.t), id, err, ar.Count(), c.id, c.count)
		}
		if got, ok := ar.Term(id); !ok || !equal(got, c.t) {
			t.Errorf("Term(%d) is %s, %v", id, show(got), ok)
		}
		hasNothing(t, ar)
	}
}

// TestHoldOfEdges: the greatest of what is right.
func TestHoldOfEdges(t *testing.T) {
	long := strings.Repeat("a", 40)
	ar := made(t, 1<<20)
	for _, s := range []api.Term{
		tvar(any - 1),
		lam(a, tvar(any)),
		pi(a, lam(a, tvar(any+1))),
		let(a, tvar(any-1), tvar(any)),
		con(long),
		con(long[:39] + "b"),
		sort(ofLevel(64)),
		sort(num(100)),
		con("a", num(100), x, num(0), ofLevel(64)),
		con("a", ofLevel(64), ofLevel(64), ofLevel(64), ofLevel(64)),
		sort(most(imax(u, succ(v)), imax(num(99), most(w, x)))),
		ofNodes(1999),
		app(ofNodes(1949), sort(ofLevel(48))),
	} {
		count := ar.Count()
		id := isHeld(t, ar, s)
		if got, ok := ar.Term(id); !ok || !equal(got, s) || id != ar.Count() || id == count {
			t.Errorf("Hold(%s) is %d of %d; its Term is %s, %v", show(s), id, ar.Count(), show(got), ok)
		}
		if again := isHeld(t, ar, clone(s)); again != id || ar.Count() != id {
			t.Errorf("Hold(%s) again is %d, not %d", show(s), again, id)
		}
	}
}

// TestHoldOfWrong: nothing of a wrong term is held, and that it is wrong comes ahead of that there is no room.
func TestHoldOfWrong(t *testing.T) {
	wide, full := made(t, 1<<20), made(t, 1)
	isHeld(t, full, a)
	for i, s := range slices.Concat(wrong(), endless(), great()) {
		for what, ar := range map[string]*arena.Arena{"a wide arena": wide, "a full arena": full} {
			count := ar.Count()
			if id, err := ar.Hold(s); id != 0 || err != api.ErrForm {
				t.Errorf("Hold of the wrong one %d in %s is %d, %v", i, what, id, err)
			}
			if ar.Count() != count {
				t.Fatalf("of the wrong one %d something is held", i)
			}
		}
	}
	// What is right within another one only, isn't by itself.
	isHeld(t, wide, lam(a, tvar(any)))
	if id, err := wide.Hold(tvar(any)); id != 0 || err != api.ErrForm {
		t.Errorf("Hold of the variable 2^50 is %d, %v", id, err)
	}
}

// TestHoldOfTooMany: what was held on the way stays, what is held already has its number.
func TestHoldOfTooMany(t *testing.T) {
	for _, c := range []struct {
		most int
		t    api.Term
		id   int
		held []api.Term
	}{
		{1, app(a, b), 0, []api.Term{a}},
		{2, app(a, b), 0, []api.Term{a, b}},
		{3, app(a, b), 3, []api.Term{a, b, app(a, b)}},
		{1, app(a, a), 0, []api.Term{a}},
		{2, app(a, a), 2, []api.Term{a, app(a, a)}},
		{1, let(a, a, a), 0, []api.Term{a}},
		{2, let(a, b, a), 0, []api.Term{a, b}},
		{2, let(a, b, c), 0, []api.Term{a, b}},
		{3, let(a, b, c), 0, []api.Term{a, b, c}},
		{4, let(a, b, c), 4, []api.Term{a, b, c, let(a, b, c)}},
		{3, app(app(a, b), app(b, a)), 0, []api.Term{a, b, app(a, b)}},
		{4, app(app(a, b), app(b, a)), 0, []api.Term{a, b, app(a, b), app(b, a)}},
		{3, app(lam(a, b), c), 0, []api.Term{a, b, lam(a, b)}},
		{2, app(lam(a, b), c), 0, []api.Term{a, b}},
		{4, app(c, lam(a, b)), 0, []api.Term{c, a, b, lam(a, b)}},
	} {
		ar := made(t, c.most)
		want := api.OK
		if c.id == 0 {
			want = api.ErrFull
		}
		for range 3 {
			if id, err := ar.Hold(c.t); id != c.id || err != want || ar.Count() != len(c.held) {
				t.Errorf("Hold(%s) with room for %d is %d, %v, with %d held", show(c.t), c.most, id, err, ar.Count())
			}
			for i, s := range c.held {
				if got, ok := ar.Term(i + 1); !ok || !equal(got, s) {
					t.Errorf("Hold(%s) with room for %d: Term(%d) is %s", show(c.t), c.most, i+1, show(got))
				}
				if id, err := ar.Hold(s); id != i+1 || err != api.OK {
					t.Errorf("Hold(%s) with room for %d: %s has the number %d, %v", show(c.t), c.most, show(s), id, err)
				}
			}
		}
	}
}

func TestTooManyByAnotherWay(t *testing.T) {
	dice := rand.New(rand.NewSource(1))
	for range 600 {
		p := plain{most: 1 + dice.Intn(30)}
		ar := made(t, p.most)
		for range 6 {
			s := thrown(dice, 1+dice.Intn(30))
			want, wantErr := p.hold(s)
			if id, err := ar.Hold(s); id != want || err != wantErr {
				t.Fatalf("Hold(%s) with room for %d is %d, %v, not %d, %v", show(s), p.most, id, err, want, wantErr)
			}
		}
		p.isAs(t, ar, numbers(ar)...)
		hasNothing(t, ar)
	}
}

// numbers are those that an arena has.
func numbers(ar *arena.Arena) []int {
	var l []int
	for id := range ar.Count() {
		l = append(l, id+1)
	}
	return l
}

// P5.2.

func TestKindAndArg(t *testing.T) {
	ar := made(t, 100)
	first, second, third := isHeld(t, ar, a), isHeld(t, ar, sort(u)), isHeld(t, ar, tvar(5))
	for _, c := range []struct {
		t    api.Term
		args [3]int
	}{
		{tvar(5), [3]int{}},
		{tvar(6), [3]int{}},
		{sort(u), [3]int{}},
		{a, [3]int{}},
		{con("b", u, v), [3]int{}},
		{app(a, sort(u)), [3]int{first, second}},
		{app(sort(u), a), [3]int{second, first}},
		{app(tvar(5), tvar(5)), [3]int{third, third}},
		{lam(a, tvar(5)), [3]int{first, third}},
		{pi(tvar(5), a), [3]int{third, first}},
		{let(a, sort(u), tvar(5)), [3]int{first, second, third}},
		{let(tvar(5), tvar(5), a), [3]int{third, third, first}},
	} {
		id := isHeld(t, ar, c.t)
		if ar.Kind(id) != c.t.Kind {
			t.Errorf("Kind of %s is %d", show(c.t), ar.Kind(id))
		}
		for at, want := range c.args {
			if got := ar.Arg(id, at); got != want {
				t.Errorf("Arg(%d) of %s is %d, not %d", at, show(c.t), got, want)
			}
		}
		for _, at := range []int{-1, -2, 3, 4, 1 << 32, 1<<32 + 1, math.MinInt, math.MaxInt} {
			if got := ar.Arg(id, at); got != 0 {
				t.Errorf("Arg(%d) of %s is %d", at, show(c.t), got)
			}
		}
	}
	hasNothing(t, ar)
}

func TestLoose(t *testing.T) {
	ar := made(t, 1000)
	for _, c := range []struct {
		t    api.Term
		want int
	}{
		{a, 0},
		{con("b", u, v), 0},
		{sort(u), 0},
		{tvar(0), 1},
		{tvar(7), 8},
		{tvar(any - 1), any},
		{app(tvar(2), tvar(5)), 6},
		{app(tvar(5), tvar(2)), 6},
		{app(a, tvar(0)), 1},
		{lam(a, tvar(0)), 0},
		{lam(a, a), 0},
		{lam(a, tvar(1)), 1},
		{lam(tvar(0), tvar(0)), 1},
		{lam(tvar(3), tvar(1)), 4},
		{pi(a, tvar(0)), 0},
		{pi(a, tvar(4)), 4},
		{pi(tvar(4), tvar(4)), 5},
		{let(a, b, tvar(0)), 0},
		{let(a, b, tvar(3)), 3},
		{let(tvar(2), b, tvar(3)), 3},
		{let(tvar(3), b, tvar(3)), 4},
		{let(a, tvar(3), tvar(3)), 4},
		{let(a, tvar(0), b), 1},
		{lam(a, lam(a, tvar(1))), 0},
		{lam(a, lam(a, tvar(2))), 1},
		{lam(a, lam(tvar(1), tvar(0))), 1},
		{app(tvar(9), con("a", x)), 10},
		{lam(a, tvar(any)), any},
		{pi(a, lam(a, tvar(any+1))), any},
	} {
		if got := ar.Loose(isHeld(t, ar, c.t)); got != c.want {
			t.Errorf("Loose of %s is %d, not %d", show(c.t), got, c.want)
		}
	}
}

// TestLooseOfBodies: layer 4 tells 0 of a body that isn't right by itself.
func TestLooseOfBodies(t *testing.T) {
	ar := made(t, 100)
	top := isHeld(t, ar, pi(a, lam(a, app(tvar(any+1), let(a, b, tvar(any+2))))))
	body := ar.Arg(top, 1)
	inner := ar.Arg(body, 1)
	for id, want := range map[int]int{
		top:                    any,
		body:                   0, // it needs 2^50 + 1
		inner:                  0, // it needs 2^50 + 2
		ar.Arg(inner, 0):       0,
		ar.Arg(inner, 1):       0,
		ar.Arg(body, 0):        0,
		isHeld(t, ar, tvar(1)): 2,
	} {
		s, ok := ar.Term(id)
		if got := ar.Loose(id); !ok || got != want || got != term.Loose(s) {
			t.Errorf("Loose of %s is %d, not %d", show(s), got, want)
		}
	}
}

func TestShared(t *testing.T) {
	ar := made(t, 5000)
	twice := a
	for deep := range 10 { // of 2^10 - 1 nodes
		if got := ar.Shared(isHeld(t, ar, twice)); got != deep+1 {
			t.Errorf("Shared of %s is %d, not %d", show(twice), got, deep+1)
		}
		twice = app(twice, twice)
	}
	for _, c := range []struct {
		t    api.Term
		want int
	}{
		{tvar(0), 1},
		{a, 1},
		{sort(most(u, v)), 1},
		{con("a", u, ofLevel(64)), 1},
		{app(a, b), 3},
		{app(a, a), 2},
		{app(con("a", u), con("a", v)), 3},
		{lam(a, a), 2},
		{let(a, a, a), 2},
		{let(a, b, a), 3},
		{let(a, b, c), 4},
		{app(lam(a, b), lam(a, b)), 4},
		{app(lam(a, b), pi(a, b)), 5},
		{app(app(a, b), app(b, a)), 5},
		{app(lam(a, lam(a, tvar(0))), lam(a, tvar(0))), 5},
		{ofNodes(1999), 1001},
	} {
		if got := ar.Shared(isHeld(t, ar, c.t)); got != c.want {
			t.Errorf("Shared of %s is %d, not %d", show(c.t), got, c.want)
		}
	}
}

// TestAppliedToItself is the chapter's example.
func TestAppliedToItself(t *testing.T) {
	dice := rand.New(rand.NewSource(2))
	ar := made(t, 1<<20)
	for range 500 {
		s := thrown(dice, 1+dice.Intn(60))
		nodes := ar.Shared(isHeld(t, ar, s))
		count := ar.Count()
		id := isHeld(t, ar, app(s, s))
		if ar.Shared(id) != nodes+1 || ar.Count() != max(count, id) || id > count && id != count+1 {
			t.Fatalf("%s leads to %d, applied to itself to %d", show(s), nodes, ar.Shared(id))
		}
	}
}

func TestByAnotherWay(t *testing.T) {
	p := plain{most: 1 << 20}
	ar := made(t, p.most)
	for _, s := range small(4) {
		want, _ := p.hold(s)
		if got := isHeld(t, ar, s); got != want {
			t.Fatalf("Hold(%s) is %d, not %d", show(s), got, want)
		}
		p.isAs(t, ar, want)
	}
	p.isAs(t, ar, numbers(ar)...)
	dice := rand.New(rand.NewSource(3))
	for range 200 {
		p := plain{most: 1 << 20}
		ar := made(t, p.most)
		for range 5 {
			s := thrown(dice, 1+dice.Intn(80))
			want, _ := p.hold(s)
			if got := isHeld(t, ar, s); got != want {
				t.Fatalf("Hold(%s) is %d, not %d", show(s), got, want)
			}
		}
		p.isAs(t, ar, numbers(ar)...)
		hasNothing(t, ar)
	}
}
