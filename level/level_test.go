package level_test

import (
	"fmt"
	"math"
	"math/rand"
	"slices"
	"testing"

	"scholium/api"
	"scholium/level"
)

// Levels are made here by literals, not by what the package makes.

func num(n int) api.Level   { return api.Level{Kind: api.LNum, N: n} }
func param(n int) api.Level { return api.Level{Kind: api.LParam, N: n} }

func succ(l api.Level) api.Level {
	return api.Level{Kind: api.LSucc, Args: []api.Level{l}}
}

func plus(l api.Level, n int) api.Level {
	for range n {
		l = succ(l)
	}
	return l
}

func most(a, b api.Level) api.Level {
	return api.Level{Kind: api.LMax, Args: []api.Level{a, b}}
}

func imax(a, b api.Level) api.Level {
	return api.Level{Kind: api.LIMax, Args: []api.Level{a, b}}
}

var u, v, w, x = param(0), param(1), param(2), param(3)

// show tells a level as text.
func show(l api.Level) string {
	s := fmt.Sprintf("%d.%d", l.Kind, l.N)
	for _, arg := range l.Args {
		s += " " + show(arg)
	}
	return "(" + s + ")"
}

// equal: are two levels one, node by node?
func equal(a, b api.Level) bool {
	return a.Kind == b.Kind && a.N == b.N && slices.EqualFunc(a.Args, b.Args, equal)
}

func isNothing(l api.Level) bool { return equal(l, api.Level{}) }

// sized are the levels of just so many nodes over the leaves.
func sized(leaves []api.Level, n int) []api.Level {
	if n == 1 {
		return leaves
	}
	var l []api.Level
	for _, arg := range sized(leaves, n-1) {
		l = append(l, succ(arg))
	}
	for left := 1; left < n-1; left++ {
		for _, a := range sized(leaves, left) {
			for _, b := range sized(leaves, n-1-left) {
				l = append(l, most(a, b), imax(a, b))
			}
		}
	}
	return l
}

// small are all levels of at most so many nodes over some leaves.
func small(n int) []api.Level {
	var l []api.Level
	for size := 1; size <= n; size++ {
		l = append(l, sized([]api.Level{num(0), num(1), u, v}, size)...)
	}
	return l
}

// thrown is a level of at most so many nodes that the dice make, right for 4.
func thrown(dice *rand.Rand, nodes int) api.Level {
	kind := dice.Intn(7)
	switch {
	case nodes < 3 || kind == 0:
		if dice.Intn(3) == 0 {
			return num([]int{0, 0, 1, 1, 2, 3, 99, 100}[dice.Intn(8)])
		}
		return param(dice.Intn(4))
	case kind < 3:
		return succ(thrown(dice, nodes-1))
	}
	left := 1 + dice.Intn(nodes-2)
	a, b := thrown(dice, left), thrown(dice, nodes-1-left)
	if kind < 5 {
		return most(a, b)
	}
	return imax(a, b)
}

func size(l api.Level) int {
	n := 1
	for _, arg := range l.Args {
		n += size(arg)
	}
	return n
}

// ofNodes is a right level of so many nodes: 0, raised.
func ofNodes(n int) api.Level { return plus(num(0), n-1) }

// comb is a right level of so many nodes, an odd number, that has as many leaves as it may.
func comb(n int) api.Level {
	l := u
	for size(l) < n {
		l = most(v, l)
	}
	return l
}

// wrong are levels that aren't right for 4, small ones first.
func wrong() []api.Level {
	var l []api.Level
	for _, kind := range []int{0, -1, 6, 7, 100, math.MinInt, math.MaxInt} {
		l = append(l, api.Level{Kind: kind}, api.Level{Kind: kind, Args: []api.Level{u}}, api.Level{Kind: kind, Args: []api.Level{u, v}})
	}
	for _, n := range []int{-1, 101, 102, 1 << 20, math.MinInt, math.MaxInt} {
		l = append(l, num(n))
	}
	for _, n := range []int{-1, 4, 5, 1 << 40, math.MinInt, math.MaxInt} {
		l = append(l, param(n))
	}
	for _, kind := range []int{api.LNum, api.LParam, api.LSucc, api.LMax, api.LIMax} {
		for n := range 5 {
			fits := kind <= api.LParam && n == 0 || kind == api.LSucc && n == 1 || kind >= api.LMax && n == 2
			if !fits {
				l = append(l, api.Level{Kind: kind, Args: []api.Level{num(1), u, num(0), v}[:n]})
			}
		}
	}
	for _, n := range []int{1, -1, math.MaxInt, math.MinInt} {
		l = append(l, api.Level{Kind: api.LSucc, N: n, Args: []api.Level{u}})
		l = append(l, api.Level{Kind: api.LMax, N: n, Args: []api.Level{u, v}}, api.Level{Kind: api.LIMax, N: n, Args: []api.Level{u, v}})
	}
	// Wrong within right ones, where the value doesn't hang on it, too.
	for _, part := range slices.Clone(l) {
		l = append(l, succ(part), most(part, u), most(u, part), imax(part, num(0)), imax(u, part), most(succ(part), u))
	}
	return append(l, ofNodes(65), ofNodes(66), ofNodes(1000), comb(65), comb(67), succ(comb(65)))
}

// endless are levels that no walk over all nodes comes to an end of, or hardly any.
func endless() []api.Level {
	var l []api.Level
	for _, kind := range []int{api.LNum, api.LParam, api.LSucc, api.LMax, api.LIMax, 9} {
		for n := 1; n <= 3; n++ {
			self := make([]api.Level, n)
			for i := range self {
				self[i] = api.Level{Kind: kind, Args: self}
			}
			ahead := make([]api.Level, n+1)
			for i := range ahead {
				ahead[i] = u
			}
			ahead[n] = api.Level{Kind: kind, Args: ahead}
			l = append(l, self[0], ahead[n])
		}
	}
	twice := u
	for range 200 {
		twice = most(twice, twice)
	}
	wide := api.Level{Kind: api.LMax, Args: make([]api.Level, 1<<20)}
	return append(l, twice, wide, plus(u, 1<<16-1))
}

// P3.1, Right and Nodes.

func TestRightOrdinary(t *testing.T) {
	for _, c := range []struct {
		l     api.Level
		least int // it is right from so many parameters on
	}{
		{num(0), 0},
		{num(1), 0},
		{num(99), 0},
		{num(100), 0},
		{u, 1},
		{v, 2},
		{w, 3},
		{x, 4},
		{succ(num(100)), 0},
		{succ(u), 1},
		{most(u, num(3)), 1},
		{most(num(3), v), 2},
		{imax(w, u), 3},
		{imax(u, w), 3},
		{succ(most(imax(u, v), succ(x))), 4},
		{imax(x, num(0)), 4},
		{api.Level{Kind: api.LNum, Args: []api.Level{}}, 0},
		{api.Level{Kind: api.LParam, Args: []api.Level{}}, 1},
		{api.Level{Kind: api.LNum, N: 5, Args: []api.Level{u}[:0]}, 0},
		{ofNodes(64), 0},
		{comb(63), 2},
		{succ(comb(63)), 2},
		{num(101), 99},
	} {
		for n := -3; n < 10; n++ {
			if got := level.Right(c.l, n); got != (n >= c.least && n <= 4) {
				t.Errorf("Right(%s, %d) is %v", show(c.l), n, got)
			}
		}
		for _, n := range []int{math.MinInt, math.MinInt + 4, math.MaxInt, 1 << 32, 1<<32 + 1, 256} {
			if level.Right(c.l, n) {
				t.Errorf("Right(%s, %d) is true", show(c.l), n)
			}
		}
	}
}

func TestRightOfWrong(t *testing.T) {
	for _, l := range wrong() {
		for n := -1; n < 7; n++ {
			if level.Right(l, n) {
				t.Errorf("Right(%s, %d) is true", show(l), n)
			}
		}
	}
}

func TestRightEveryNumber(t *testing.T) {
	for n := -300; n < 700; n++ {
		if got := level.Right(num(n), 0); got != (n >= 0 && n <= 100) {
			t.Errorf("Right of the number %d is %v", n, got)
		}
		for k := range 5 {
			if got := level.Right(param(n), k); got != (n >= 0 && n < k) {
				t.Errorf("Right of the parameter %d is %v for %d", n, got, k)
			}
		}
	}
}

func TestNodes(t *testing.T) {
	for n := 1; n < 130; n++ {
		for _, l := range []api.Level{ofNodes(n), comb(n - n%2 + 1)} {
			if got := level.Nodes(l); got != min(size(l), 65) {
				t.Errorf("Nodes of a level of %d is %d", size(l), got)
			}
			if got := level.Right(l, 2); got != (size(l) <= 64) {
				t.Errorf("Right of a level of %d nodes is %v", size(l), got)
			}
		}
		// Of wrong ones all Args count.
		wide := api.Level{Kind: api.LNum, N: -5, Args: make([]api.Level, n-1)}
		if got := level.Nodes(wide); got != min(n, 65) {
			t.Errorf("Nodes of a wide level of %d is %d", n, got)
		}
	}
	for _, l := range append(wrong(), small(5)...) {
		if got := level.Nodes(l); got != min(size(l), 65) {
			t.Errorf("Nodes(%s) is %d", show(l), got)
		}
	}
}

// P3.1, Value, Zero and Never.

// valueBy tells the value of a right level by another way than the package does: by the texts of the document, node by node.
func valueBy(l api.Level, vals []int) int {
	switch l.Kind {
	case api.LNum:
		return l.N
	case api.LParam:
		n := 0
		if l.N < len(vals) {
			n = vals[l.N]
		}
		if n < 0 {
			n = 0
		}
		if n > 1<<20 {
			n = 1 << 20
		}
		return n
	case api.LSucc:
		return 1 + valueBy(l.Args[0], vals)
	}
	a, b := valueBy(l.Args[0], vals), valueBy(l.Args[1], vals)
	if b > a || b == 0 && l.Kind == api.LIMax {
		return b
	}
	return a
}

func TestValueOrdinary(t *testing.T) {
	for _, c := range []struct {
		l    api.Level
		vals []int
		want int
	}{
		{num(0), nil, 0},
		{num(100), nil, 100},
		{num(7), []int{1, 2}, 7},
		{u, []int{5, 6}, 5},
		{v, []int{5, 6}, 6},
		{x, []int{1, 2, 3, 4}, 4},
		{x, []int{1, 2, 3, 4, 5}, 4},
		{succ(succ(u)), []int{5}, 7},
		{most(u, v), []int{5, 6}, 6},
		{most(u, v), []int{6, 5}, 6},
		{most(u, v), []int{5, 0}, 5},
		{most(u, num(0)), []int{5}, 5},
		{imax(u, v), []int{5, 6}, 6},
		{imax(u, v), []int{6, 5}, 6},
		{imax(u, v), []int{6, 1}, 6},
		{imax(u, v), []int{5, 0}, 0},
		{imax(u, v), []int{0, 5}, 5},
		{imax(u, num(0)), []int{5}, 0},
		{imax(num(100), u), []int{0}, 0},
		{imax(num(100), succ(u)), []int{0}, 100},
		{succ(imax(u, num(0))), []int{5}, 1},
		{imax(u, imax(v, w)), []int{5, 6, 0}, 0},
		{imax(u, imax(v, w)), []int{5, 6, 1}, 6},
		{most(imax(u, v), w), []int{5, 0, 2}, 2},
		// Of parameters that there aren't.
		{u, nil, 0},
		{u, []int{}, 0},
		{v, []int{5}, 0},
		{x, []int{5, 5, 5}, 0},
		{succ(v), []int{5}, 1},
		{imax(u, v), []int{5}, 0},
		{v, []int{5, 9}[:1], 0},
		// Below 0, and greater than 2^20.
		{u, []int{-1}, 0},
		{u, []int{math.MinInt}, 0},
		{succ(u), []int{-5}, 1},
		{imax(num(3), u), []int{-1}, 0},
		{u, []int{1<<20 - 1}, 1<<20 - 1},
		{u, []int{1 << 20}, 1 << 20},
		{u, []int{1<<20 + 1}, 1 << 20},
		{u, []int{math.MaxInt}, 1 << 20},
		{succ(u), []int{math.MaxInt}, 1<<20 + 1},
		{plus(u, 63), []int{1 << 30}, 1<<20 + 63},
		{most(u, succ(v)), []int{math.MaxInt, 1 << 20}, 1<<20 + 1},
		{ofNodes(64), nil, 63},
		{plus(num(100), 63), nil, 163},
	} {
		if got := level.Value(c.l, c.vals); got != c.want {
			t.Errorf("Value(%s, %v) is %d, not %d", show(c.l), c.vals, got, c.want)
		}
	}
}

func TestValueOfAll(t *testing.T) {
	lists := [][]int{nil, {0}, {3}, {0, 0}, {2, 0}, {0, 2}, {-7, 1 << 21}, {1, 2, 3, 4, 5}}
	for _, l := range small(5) {
		for _, vals := range lists {
			if got, want := level.Value(l, vals), valueBy(l, vals); got != want {
				t.Fatalf("Value(%s, %v) is %d, not %d", show(l), vals, got, want)
			}
		}
	}
	dice := rand.New(rand.NewSource(1))
	for range 20000 {
		l := thrown(dice, 1+dice.Intn(64))
		vals := make([]int, dice.Intn(6))
		for i := range vals {
			vals[i] = []int{0, 0, 1, 2, 50, 1<<20 - 20, 1 << 20, 1 << 50, -1}[dice.Intn(9)]
		}
		if got, want := level.Value(l, vals), valueBy(l, vals); got != want {
			t.Fatalf("Value(%s, %v) is %d, not %d", show(l), vals, got, want)
		}
	}
}

func TestZeroAndNeverOrdinary(t *testing.T) {
	for _, c := range []struct {
		l           api.Level
		zero, never bool
	}{
		{num(0), true, false},
		{num(1), false, true},
		{num(100), false, true},
		{u, false, false},
		{x, false, false},
		{succ(num(0)), false, true},
		{succ(u), false, true},
		{most(num(0), num(0)), true, false},
		{most(u, num(0)), false, false},
		{most(num(0), x), false, false},
		{most(u, num(1)), false, true},
		{most(num(1), u), false, true},
		{most(u, v), false, false},
		{imax(u, num(0)), true, false},
		{imax(num(9), num(0)), true, false},
		{imax(num(0), u), false, false},
		{imax(num(1), u), false, false},
		{imax(u, num(1)), false, true},
		{imax(num(0), num(1)), false, true},
		{imax(u, succ(v)), false, true},
		{imax(u, v), false, false},
		{imax(u, imax(v, num(0))), true, false},
		{most(imax(u, num(0)), imax(x, num(0))), true, false},
		{most(imax(u, num(0)), imax(x, num(1))), false, true},
		// Never 0, though each part may be: where x isn't 0, x is there, and else the 1 is.
		{most(x, imax(num(1), num(1))), false, true},
		{imax(imax(u, num(1)), most(v, num(1))), false, true},
		{succ(imax(u, num(0))), false, true},
	} {
		if got := level.Zero(c.l); got != c.zero {
			t.Errorf("Zero(%s) is %v", show(c.l), got)
		}
		if got := level.Never(c.l); got != c.never {
			t.Errorf("Never(%s) is %v", show(c.l), got)
		}
	}
}

func TestValueZeroAndNeverOfWrong(t *testing.T) {
	for _, l := range wrong() {
		if got := level.Value(l, []int{5, 6, 7, 8, 9}); got != 0 {
			t.Errorf("Value(%s) is %d", show(l), got)
		}
		if level.Zero(l) || level.Never(l) {
			t.Errorf("Zero(%s) or Never is true", show(l))
		}
	}
}

// P3.2, Leq and Same.

// points are numbers for 4 parameters. They tell all of two levels whose parts raise by less than 500: of which parameters are 0 hangs what each LIMax is, and there each level is the greatest one of a number and of some parameters with something added; if one is above the other anywhere, it is where all those are 1 (by its number), or where all but one are 1, and that one is great.
func points() [][]int {
	var l [][]int
	for _, a := range []int{0, 1, 2, 1000} {
		for _, b := range []int{0, 1, 2, 1000} {
			for _, c := range []int{0, 1, 2, 1000} {
				for _, d := range []int{0, 1, 2, 1000} {
					l = append(l, []int{a, b, c, d})
				}
			}
		}
	}
	return l
}

// curve is a right level's value at each point.
func curve(l api.Level, at [][]int) []int {
	var vals []int
	for _, point := range at {
		vals = append(vals, valueBy(l, point))
	}
	return vals
}

func below(a, b []int) bool {
	for i := range a {
		if a[i] > b[i] {
			return false
		}
	}
	return true
}

func TestLeqAndSameOrdinary(t *testing.T) {
	for _, c := range []struct {
		a, b       api.Level
		up, downTo bool // a at most b, b at most a
	}{
		{num(0), num(0), true, true},
		{num(0), num(1), true, false},
		{num(100), num(99), false, true},
		{num(3), plus(num(0), 3), true, true},
		{num(3), plus(num(1), 3), true, false},
		{num(0), u, true, false},
		{num(1), u, false, false},
		{num(1), succ(u), true, false},
		{num(2), succ(u), false, false},
		{u, u, true, true},
		{u, v, false, false},
		{w, x, false, false},
		{u, succ(u), true, false},
		{succ(u), succ(v), false, false},
		{u, most(u, v), true, false},
		{v, most(u, v), true, false},
		{most(u, v), most(v, u), true, true},
		{most(u, most(v, w)), most(most(w, u), v), true, true},
		{most(u, u), u, true, true},
		{most(u, num(0)), u, true, true},
		{most(u, num(1)), u, false, true},
		{most(succ(u), num(1)), succ(u), true, true},
		{most(succ(u), num(2)), succ(u), false, true},
		{most(succ(succ(u)), num(2)), succ(succ(u)), true, true},
		{most(succ(u), succ(v)), succ(most(u, v)), true, true},
		{most(u, succ(u)), succ(u), true, true},
		{imax(u, num(0)), num(0), true, true},
		{imax(num(0), u), u, true, true},
		{imax(num(1), u), u, true, true},
		{imax(num(2), u), u, false, true},
		{imax(u, u), u, true, true},
		{imax(u, num(1)), most(u, num(1)), true, true},
		{imax(u, succ(v)), most(u, succ(v)), true, true},
		{imax(succ(u), v), most(succ(u), v), true, false},
		{imax(u, v), most(u, v), true, false},
		{imax(u, v), v, false, true},
		{imax(u, v), u, false, false},
		{imax(u, v), imax(v, u), false, false},
		{imax(succ(u), u), succ(u), true, false},
		{imax(succ(u), u), u, false, true},
		{imax(u, imax(v, w)), imax(most(u, v), w), true, true},
		{imax(u, most(v, w)), most(imax(u, v), imax(u, w)), true, true},
		{imax(most(u, v), w), most(imax(u, w), imax(v, w)), true, true},
		{succ(imax(u, v)), imax(succ(u), succ(v)), true, false},
		{succ(imax(u, v)), most(num(1), imax(succ(u), succ(v))), true, false},
		{imax(imax(u, v), w), imax(u, imax(v, w)), true, false},
		{most(imax(u, v), imax(v, u)), most(u, v), true, true},
		{most(imax(u, v), imax(v, w)), most(u, v), false, false},
		{most(imax(u, v), imax(w, u)), most(u, most(v, w)), true, false},
		{most(most(u, v), most(w, x)), succ(most(most(x, w), most(v, u))), true, false},
		{imax(num(5), x), most(num(5), x), true, false},
		// A parameter that is 1 at least tells as much as a number.
		{imax(num(2), u), imax(succ(num(1)), u), true, true},
		{imax(num(2), u), imax(succ(u), u), true, false},
		{most(imax(num(2), u), imax(succ(u), u)), imax(succ(u), u), true, true},
		{most(imax(num(3), u), imax(succ(u), u)), imax(succ(u), u), false, true},
	} {
		if got := level.Leq(c.a, c.b); got != c.up {
			t.Errorf("Leq(%s, %s) is %v", show(c.a), show(c.b), got)
		}
		if got := level.Leq(c.b, c.a); got != c.downTo {
			t.Errorf("Leq(%s, %s) is %v", show(c.b), show(c.a), got)
		}
		for _, got := range []bool{level.Same(c.a, c.b), level.Same(c.b, c.a)} {
			if got != (c.up && c.downTo) {
				t.Errorf("Same of %s and %s is %v", show(c.a), show(c.b), got)
			}
		}
	}
}

func TestLeqAndSameOfAllSmall(t *testing.T) {
	levels, at := small(4), points()
	var curves [][]int
	for _, l := range levels {
		curves = append(curves, curve(l, at))
	}
	for i, a := range levels {
		for j, b := range levels {
			if got := level.Leq(a, b); got != below(curves[i], curves[j]) {
				t.Fatalf("Leq(%s, %s) is %v", show(a), show(b), got)
			}
			if got := level.Same(a, b); got != slices.Equal(curves[i], curves[j]) {
				t.Fatalf("Same(%s, %s) is %v", show(a), show(b), got)
			}
		}
	}
}

func TestZeroAndNeverOfAllSmall(t *testing.T) {
	at := points()
	for _, l := range small(6) {
		vals := curve(l, at)
		if got := level.Zero(l); got != (slices.Max(vals) == 0) {
			t.Fatalf("Zero(%s) is %v", show(l), got)
		}
		if got := level.Never(l); got != (slices.Min(vals) > 0) {
			t.Fatalf("Never(%s) is %v", show(l), got)
		}
	}
}

// near is a level that is alike, or nearly so: one part of it is written in another way, or is another one.
func near(dice *rand.Rand, l api.Level) api.Level {
	if len(l.Args) > 0 && dice.Intn(3) > 0 {
		args := slices.Clone(l.Args)
		at := dice.Intn(len(args))
		args[at] = near(dice, args[at])
		return api.Level{Kind: l.Kind, N: l.N, Args: args}
	}
	more := thrown(dice, 1+dice.Intn(4))
	switch dice.Intn(8) {
	case 0:
		return most(l, more)
	case 1:
		return most(more, l)
	case 2:
		return imax(l, more)
	case 3:
		return imax(more, l)
	case 4:
		return most(l, imax(l, more))
	case 5:
		return more
	}
	if len(l.Args) == 2 {
		kind := []int{api.LMax, api.LIMax, l.Kind}[dice.Intn(3)]
		return api.Level{Kind: kind, Args: []api.Level{l.Args[1], l.Args[0]}}
	}
	return l
}

func TestLeqAndSameOfThrown(t *testing.T) {
	dice, at := rand.New(rand.NewSource(2)), points()
	told := map[string]int{}
	for range 6000 {
		a := thrown(dice, 1+dice.Intn(50))
		b := near(dice, a)
		if dice.Intn(4) == 0 {
			b = thrown(dice, 1+dice.Intn(64))
		}
		if size(b) > 64 {
			continue
		}
		x, y := curve(a, at), curve(b, at)
		for _, c := range []struct {
			what      string
			got, want bool
		}{
			{"up", level.Leq(a, b), below(x, y)},
			{"down", level.Leq(b, a), below(y, x)},
			{"same", level.Same(a, b), slices.Equal(x, y)},
			{"zero", level.Zero(a), slices.Max(x) == 0},
			{"never", level.Never(a), slices.Min(x) > 0},
		} {
			if c.got != c.want {
				t.Fatalf("%s: %s, %s: %v", c.what, show(a), show(b), c.got)
			}
			told[fmt.Sprint(c.what, c.want)]++
		}
	}
	for _, what := range []string{"up", "down", "same", "zero", "never"} {
		if told[what+"true"] < 100 || told[what+"false"] < 100 {
			t.Errorf("%s: the dice made too few of a kind: %v", what, told)
		}
	}
}

func TestLeqAndSameAtTheBounds(t *testing.T) {
	// Greater numbers than Value counts: whatever the parameters' numbers are.
	if level.Leq(most(u, num(100)), num(100)) || level.Leq(plus(u, 1), most(u, plus(num(100), 60))) {
		t.Error("a parameter has a bound")
	}
	for n := 1; n <= 64; n++ {
		if a := plus(num(0), n-1); !level.Leq(a, num(n-1)) || !level.Same(a, num(n-1)) || level.Leq(a, num(n-2)) {
			t.Errorf("%d nodes, of a number", n)
		}
		if n > 1 && (!level.Leq(plus(x, n-2), plus(x, n-1)) || level.Leq(plus(x, n-1), plus(x, n-2))) {
			t.Errorf("%d nodes, of a parameter", n)
		}
	}
	if a := comb(63); !level.Same(a, most(u, v)) || !level.Leq(most(u, v), a) || !level.Leq(a, succ(a)) || level.Leq(succ(a), a) {
		t.Error("64 nodes")
	}
}

func TestLeqAndSameOfWrong(t *testing.T) {
	for _, l := range wrong() {
		for _, o := range []api.Level{num(0), num(100), u, l, most(l, u)} {
			if level.Leq(l, o) || level.Leq(o, l) || level.Same(l, o) || level.Same(o, l) {
				t.Errorf("%s, %s: true", show(l), show(o))
			}
		}
	}
}

// P3.3, Inst.

func TestInstOrdinary(t *testing.T) {
	for _, c := range []struct {
		l    api.Level
		by   []api.Level
		want api.Level
	}{
		{num(7), nil, num(7)},
		{num(7), []api.Level{u}, num(7)},
		{plus(num(1), 2), nil, plus(num(1), 2)},
		{u, []api.Level{num(3)}, num(3)},
		{u, []api.Level{x}, x},
		{v, []api.Level{num(1), num(2)}, num(2)},
		{u, []api.Level{num(1), num(2)}, num(1)},
		{x, []api.Level{num(1), num(2), num(3), num(4)}, num(4)},
		{succ(u), []api.Level{num(3)}, succ(num(3))},
		{most(u, v), []api.Level{v, u}, most(v, u)},
		{imax(u, v), []api.Level{v, u}, imax(v, u)},
		{most(v, imax(u, succ(v))), []api.Level{succ(x), num(0)}, most(num(0), imax(succ(x), succ(num(0))))},
		// All at once: what comes in isn't looked at again.
		{most(u, most(v, w)), []api.Level{v, w, u}, most(v, most(w, u))},
		{u, []api.Level{succ(u)}, succ(u)},
		// What isn't asked for may be anything right.
		{u, []api.Level{num(1), ofNodes(64), x, num(100)}, num(1)},
		// No reckoning.
		{imax(u, v), []api.Level{u, num(0)}, imax(u, num(0))},
		{most(u, u), []api.Level{num(1)}, most(num(1), num(1))},
	} {
		if got, ok := level.Inst(c.l, c.by); !ok || !equal(got, c.want) {
			t.Errorf("Inst(%s) is %s, %v, not %s", show(c.l), show(got), ok, show(c.want))
		}
	}
}

func TestInstOfTooManyNodes(t *testing.T) {
	for _, c := range []struct {
		l    api.Level
		by   []api.Level
		size int
	}{
		{u, []api.Level{ofNodes(64)}, 64},
		{succ(u), []api.Level{ofNodes(63)}, 64},
		{succ(u), []api.Level{ofNodes(64)}, 65},
		{most(u, u), []api.Level{ofNodes(31)}, 63},
		{succ(most(u, u)), []api.Level{ofNodes(31)}, 64},
		{most(u, u), []api.Level{ofNodes(32)}, 65},
		{most(u, v), []api.Level{ofNodes(32), ofNodes(31)}, 64},
		{most(u, v), []api.Level{ofNodes(31), ofNodes(32)}, 64},
		{most(u, v), []api.Level{ofNodes(32), ofNodes(32)}, 65},
		{imax(u, num(0)), []api.Level{ofNodes(63)}, 65},
		{plus(u, 63), []api.Level{num(0)}, 64},
		{plus(u, 63), []api.Level{succ(num(0))}, 65},
		{ofNodes(64), []api.Level{ofNodes(64)}, 64},
		{comb(63), []api.Level{ofNodes(64), ofNodes(64)}, 31 + 32*64},
	} {
		got, ok := level.Inst(c.l, c.by)
		if ok != (c.size <= 64) || !ok && !isNothing(got) || ok && size(got) != c.size {
			t.Errorf("Inst of %d nodes is %s, %v", c.size, show(got), ok)
		}
	}
}

func TestInstOfWrong(t *testing.T) {
	odd := num(-1)
	for _, c := range []struct {
		l  api.Level
		by []api.Level
	}{
		{u, nil},
		{v, []api.Level{u}},
		{most(u, v), []api.Level{u}},
		{imax(num(0), v), []api.Level{u}},
		{x, []api.Level{u, u, u}},
		{num(101), nil},
		{num(1), []api.Level{u, u, u, u, u}},
		{u, []api.Level{u, u, u, u, u}},
		{u, slices.Repeat([]api.Level{u}, 1000)},
		{ofNodes(65), nil},
		{num(0), []api.Level{odd}},
		{u, []api.Level{num(0), odd}},
		{v, []api.Level{odd, num(0)}},
		{v, []api.Level{num(0), odd}},
		{num(0), []api.Level{param(4)}},
		{num(0), []api.Level{{}}},
		{num(0), []api.Level{u, v, w, ofNodes(65)}},
		{u, []api.Level{ofNodes(65)}},
		{api.Level{}, nil},
		{api.Level{Kind: api.LParam, Args: []api.Level{u}}, []api.Level{u}},
	} {
		if got, ok := level.Inst(c.l, c.by); ok || !isNothing(got) {
			t.Errorf("Inst(%s) by %d is %s, %v", show(c.l), len(c.by), show(got), ok)
		}
	}
	for _, l := range wrong() {
		for _, by := range [][]api.Level{nil, {u}, {u, u, u, u}} {
			if got, ok := level.Inst(l, by); ok || !isNothing(got) {
				t.Errorf("Inst(%s) is %s, %v", show(l), show(got), ok)
			}
		}
		for _, by := range [][]api.Level{{l}, {u, l}, {l, u}, {u, u, u, l}} {
			if got, ok := level.Inst(u, by); ok || !isNothing(got) {
				t.Errorf("Inst by %s is %s, %v", show(l), show(got), ok)
			}
		}
	}
}

// TestInstKeepsTheValue: what has the levels in place has the value that the level has at the levels' values.
func TestInstKeepsTheValue(t *testing.T) {
	dice := rand.New(rand.NewSource(3))
	kept := 0
	for range 3000 {
		l := thrown(dice, 1+dice.Intn(20))
		by := make([]api.Level, dice.Intn(5))
		for i := range by {
			by[i] = thrown(dice, 1+dice.Intn(12))
		}
		got, ok := level.Inst(l, by)
		if !ok {
			continue
		}
		kept++
		for range 10 {
			vals := []int{dice.Intn(3), dice.Intn(3), dice.Intn(3), dice.Intn(200)}
			var at []int
			for _, b := range by {
				at = append(at, valueBy(b, vals))
			}
			if valueBy(got, vals) != valueBy(l, at) {
				t.Fatalf("Inst(%s) is %s", show(l), show(got))
			}
		}
	}
	if kept < 500 {
		t.Errorf("only %d of the dice's were right", kept)
	}
}

// P3.3, Num, Param, Succ, Max and IMax.

func TestMakers(t *testing.T) {
	for _, n := range []int{0, 1, 3, 4, 100, 101, -1, math.MinInt, math.MaxInt} {
		if got := level.Num(n); !equal(got, num(n)) {
			t.Errorf("Num(%d) is %s", n, show(got))
		}
		if got := level.Param(n); !equal(got, param(n)) {
			t.Errorf("Param(%d) is %s", n, show(got))
		}
	}
	// Of wrong ones, too: a level of that kind is asked for, not a right one.
	levels := append(wrong(), num(0), u, succ(v), most(u, v), imax(v, u), ofNodes(63), ofNodes(64))
	for _, l := range levels {
		if got := level.Succ(l); !equal(got, succ(l)) {
			t.Errorf("Succ(%s) is %s", show(l), show(got))
		}
		if got := level.IMax(l, w); !equal(got, imax(l, w)) {
			t.Errorf("IMax(%s, w) is %s", show(l), show(got))
		}
		if got := level.IMax(w, l); !equal(got, imax(w, l)) {
			t.Errorf("IMax(w, %s) is %s", show(l), show(got))
		}
		if got := level.Max(l); !equal(got, l) {
			t.Errorf("Max(%s) is %s", show(l), show(got))
		}
		if got := level.Max(l, w); !equal(got, most(l, w)) {
			t.Errorf("Max(%s, w) is %s", show(l), show(got))
		}
		if got := level.Max(w, l); !equal(got, most(w, l)) {
			t.Errorf("Max(w, %s) is %s", show(l), show(got))
		}
	}
}

func TestMax(t *testing.T) {
	for _, c := range []struct {
		list []api.Level
		want api.Level
	}{
		{nil, num(0)},
		{[]api.Level{}, num(0)},
		{[]api.Level{u}, u},
		{[]api.Level{num(5)}, num(5)},
		{[]api.Level{u, v}, most(u, v)},
		{[]api.Level{v, u}, most(v, u)},
		{[]api.Level{u, u}, most(u, u)},
		{[]api.Level{num(1), num(2)}, most(num(1), num(2))},
		{[]api.Level{u, v, w}, most(u, most(v, w))},
		{[]api.Level{u, v, w, x, num(9)}, most(u, most(v, most(w, most(x, num(9)))))},
		{[]api.Level{most(u, v), w, imax(u, v)}, most(most(u, v), most(w, imax(u, v)))},
	} {
		if got := level.Max(c.list...); !equal(got, c.want) {
			t.Errorf("Max of %d is %s, not %s", len(c.list), show(got), show(c.want))
		}
	}
	// Of n levels: 2n - 1 nodes.
	if got := level.Max(slices.Repeat([]api.Level{u}, 32)...); !level.Right(got, 1) || level.Nodes(got) != 63 {
		t.Error("Max of 32 isn't right")
	}
	if got := level.Max(slices.Repeat([]api.Level{u}, 33)...); level.Right(got, 1) || level.Nodes(got) != 65 || size(got) != 65 {
		t.Error("Max of 33 is right")
	}
	if got := level.Max(slices.Repeat([]api.Level{u}, 1<<15)...); size(got) != 1<<16-1 {
		t.Error("Max of many has lost some")
	}
}

// TestMakersOfMuch: levels that aren't right are kept whole, as far as the document's bound goes.
func TestMakersOfMuch(t *testing.T) {
	deep := plus(u, 1<<16-1)
	wide := api.Level{Kind: api.LMax, Args: make([]api.Level, 1<<20)}
	for _, l := range []api.Level{deep, wide} {
		if !equal(level.Succ(l), succ(l)) || !equal(level.IMax(l, u), imax(l, u)) || !equal(level.Max(u, l), most(u, l)) {
			t.Errorf("a level of %d nodes isn't kept", size(l))
		}
	}
}

// P3.4.

// clone is a level in memory of its own, and roomy one with marks behind each list's length.
func clone(l api.Level) api.Level {
	args := slices.Clone(l.Args)
	for i := range args {
		args[i] = clone(args[i])
	}
	return api.Level{Kind: l.Kind, N: l.N, Args: args}
}

var mark = api.Level{Kind: 77, N: 77}

func roomy(l api.Level) api.Level {
	args := roomyList(l.Args)
	return api.Level{Kind: l.Kind, N: l.N, Args: args}
}

func roomyList(list []api.Level) []api.Level {
	out := make([]api.Level, len(list), len(list)+3)
	for i := range list {
		out[i] = roomy(list[i])
	}
	copy(out[len(out):cap(out)], []api.Level{mark, mark, mark})
	return out
}

// isRoomy: does a level still have its marks?
func isRoomy(l api.Level) bool { return isRoomyList(l.Args) }

func isRoomyList(list []api.Level) bool {
	for _, arg := range list {
		if !isRoomy(arg) {
			return false
		}
	}
	behind := list[len(list):cap(list)]
	return len(behind) == 3 && !slices.ContainsFunc(behind, func(l api.Level) bool { return !equal(l, mark) })
}

// places gathers where a level's lists stand, spare room too, and tells whether two of them share any.
func places(list []api.Level, seen map[*api.Level]bool) bool {
	all := list[:cap(list)]
	for i := range all {
		if seen[&all[i]] {
			return false
		}
		seen[&all[i]] = true
	}
	for i := range list {
		if !places(list[i].Args, seen) {
			return false
		}
	}
	return true
}

// calls are the calls that answer levels, of levels that are handed in.
func calls(list []api.Level) map[string]func() api.Level {
	inst := func(l api.Level, by []api.Level) api.Level {
		out, _ := level.Inst(l, by)
		return out
	}
	return map[string]func() api.Level{
		"Inst":      func() api.Level { return inst(list[0], list[1:]) },
		"Inst none": func() api.Level { return inst(list[0], nil) },
		"Inst one":  func() api.Level { return inst(list[1], list[:1]) },
		"Succ":      func() api.Level { return level.Succ(list[0]) },
		"IMax":      func() api.Level { return level.IMax(list[0], list[1]) },
		"IMax one":  func() api.Level { return level.IMax(list[0], list[0]) },
		"Max":       func() api.Level { return level.Max(list...) },
		"Max one":   func() api.Level { return level.Max(list[0]) },
		"Max two":   func() api.Level { return level.Max(list[:2]...) },
		"Max twice": func() api.Level { return level.Max(list[0], list[0], list[1]) },
	}
}

func someLists() [][]api.Level {
	same := succ(most(u, num(2)))
	l := [][]api.Level{
		{most(u, imax(u, most(v, v))), succ(u), imax(u, num(0)), v},
		{most(same, same), same, same},
		{u, most(u, v)},
		{imax(u, u), succ(num(1))},
		{num(1), succ(u)},
		{plus(num(0), 3), u},
		{{Kind: 9, Args: []api.Level{u, succ(v), {Kind: -1}}}, {Kind: api.LParam, Args: []api.Level{u}}},
	}
	dice := rand.New(rand.NewSource(4))
	for range 300 {
		var list []api.Level
		for range 2 + dice.Intn(4) {
			list = append(list, thrown(dice, 1+dice.Intn(9)))
		}
		l = append(l, list)
	}
	return l
}

func TestNothingIsChanged(t *testing.T) {
	for _, c := range someLists() {
		list := roomyList(c)
		for _, l := range list {
			level.Right(l, 4)
			level.Value(l, []int{1, 0, 2})
			level.Leq(l, list[0])
			level.Same(list[0], l)
			level.Zero(l)
			level.Never(l)
			level.Nodes(l)
		}
		for what, call := range calls(list) {
			call()
			if !slices.EqualFunc(list, c, equal) || !isRoomyList(list) {
				t.Fatalf("%s has changed what was handed in", what)
			}
		}
	}
	vals := []int{math.MaxInt, -1, 3, 4, 5}[:3]
	level.Value(most(u, imax(v, x)), vals)
	if !slices.Equal(vals[:5], []int{math.MaxInt, -1, 3, 4, 5}) {
		t.Errorf("Value has changed the numbers: %v", vals)
	}
}

func TestAnswersAreNew(t *testing.T) {
	for _, c := range someLists() {
		list := roomyList(c)
		for what, call := range calls(list) {
			seen := map[*api.Level]bool{}
			places(list, seen)
			got := call()
			if !places(got.Args, seen) {
				t.Fatalf("%s: %s shares memory", what, show(got))
			}
			want := clone(got)
			overwrite(got.Args)
			if !slices.EqualFunc(list, c, equal) || !isRoomyList(list) {
				t.Fatalf("%s: to change the answer changes what was handed in", what)
			}
			if again := call(); !equal(again, want) {
				t.Fatalf("%s: the second answer is %s, not %s", what, show(again), show(want))
			}
		}
	}
}

// TestNothingIsKept: an answer stays as it is when what was handed in is changed.
func TestNothingIsKept(t *testing.T) {
	for _, c := range someLists() {
		for what := range calls(c) {
			list := roomyList(c)
			got := calls(list)[what]()
			want := clone(got)
			overwrite(list)
			if !equal(got, want) {
				t.Fatalf("%s: the answer changes with what was handed in", what)
			}
		}
	}
}

func overwrite(list []api.Level) {
	all := list[:cap(list)]
	for i := range all {
		overwrite(all[i].Args)
		all[i] = api.Level{Kind: 55, N: 55}
	}
}

// P1: every call ends, and none panics.

func TestEveryCallEnds(t *testing.T) {
	odd := append(endless(), wrong()...)
	for i, l := range odd {
		for _, n := range []int{-1, 0, 4, 5, math.MinInt, math.MaxInt} {
			if level.Right(l, n) {
				t.Errorf("Right of the odd one %d is true", i)
			}
		}
		o := odd[(i+1)%len(odd)]
		if level.Leq(l, o) || level.Leq(l, u) || level.Leq(u, l) || level.Same(l, l) || level.Same(l, u) || level.Same(u, l) || level.Zero(l) || level.Never(l) || level.Value(l, []int{1}) != 0 {
			t.Errorf("the odd one %d is taken for a right one", i)
		}
		if got, ok := level.Inst(l, []api.Level{u, v, w, x}); ok || !isNothing(got) {
			t.Errorf("Inst of the odd one %d: %v", i, ok)
		}
		if got, ok := level.Inst(u, []api.Level{l}); ok || !isNothing(got) {
			t.Errorf("Inst by the odd one %d: %v", i, ok)
		}
		for _, got := range []api.Level{level.Succ(l), level.Max(l), level.Max(u, l), level.IMax(l, u), level.IMax(u, l)} {
			if level.Right(got, 4) {
				t.Errorf("what is made of the odd one %d is right", i)
			}
		}
	}
	for _, l := range endless() {
		if got := level.Nodes(l); got != 65 {
			t.Errorf("Nodes of one without end is %d", got)
		}
	}
}
