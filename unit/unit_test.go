package unit_test

import (
	"math"
	"math/rand"
	"slices"
	"testing"

	"vidimus/api"
	"vidimus/unit"
)

// cloned is clauses in memory of their own.
func cloned(l [][]int) [][]int {
	out := make([][]int, len(l))
	for i, c := range l {
		out[i] = slices.Clone(c)
	}
	return out
}

// turned is literals, each the other way round.
func turned(c []int) []int {
	var out []int
	for _, x := range c {
		out = append(out, -x)
	}
	return out
}

// run is the numbers from one to another.
func run(from, to int) []int {
	var out []int
	for x := from; x <= to; x++ {
		out = append(out, x)
	}
	return out
}

// backwards is clauses in the other order.
func backwards(l [][]int) [][]int {
	out := slices.Clone(l)
	slices.Reverse(out)
	return out
}

// plainly is what is forced, by the chapter's words, one literal after the other.
func plainly(n int, l [][]int, assume []int) ([]int, bool) {
	forced := map[int]bool{}
	for _, x := range assume {
		forced[x] = true
	}
	for more := true; more; {
		more = false
		for _, c := range l {
			others := map[int]bool{}
			only := 0
			for _, x := range c {
				if !forced[-x] {
					others[x] = true
					only = x
				}
			}
			if len(others) == 0 {
				return nil, true
			}
			if len(others) == 1 && !forced[only] {
				forced[only] = true
				more = true
			}
		}
	}
	var out []int
	for v := 1; v <= n; v++ {
		if forced[v] && forced[-v] {
			return nil, true
		}
		if forced[v] {
			out = append(out, v)
		}
		if forced[-v] {
			out = append(out, -v)
		}
	}
	return out, false
}

// checkClose holds what Close answers, and that it changes nothing.
func checkClose(t *testing.T, n int, l [][]int, assume, want []int, wantClash bool) {
	t.Helper()
	beforeL, beforeA := cloned(l), slices.Clone(assume)
	got, clash := unit.Close(n, l, assume)
	if !slices.Equal(got, want) || clash != wantClash {
		t.Errorf("%d, %.200v, %.200v: %.200v, %v; not %.200v, %v", n, l, assume, got, clash, want, wantClash)
	}
	if !slices.EqualFunc(l, beforeL, slices.Equal[[]int]) || !slices.Equal(assume, beforeA) {
		t.Errorf("%v, %v became %v, %v", beforeL, beforeA, l, assume)
	}
}

type closed struct {
	n      int
	l      [][]int
	assume []int
	forced []int
	clash  bool
}

// P4.1: what is forced, with each edge.
func TestClose(t *testing.T) {
	for _, x := range []closed{
		{n: 3, l: [][]int{{1, 2}, {-1, 3}}, assume: []int{-2}, forced: []int{1, -2, 3}},
		{},
		{n: 5},
		{n: 5, l: [][]int{}, assume: []int{}},
		{n: 5, assume: []int{5, -1, 3}, forced: []int{-1, 3, 5}},
		{n: 5, assume: []int{2, 2, 2}, forced: []int{2}},
		{n: 5, assume: []int{-2, 1, -2}, forced: []int{1, -2}},
		{n: 5, l: [][]int{{3}}, forced: []int{3}},
		{n: 5, l: [][]int{{-3}}, forced: []int{-3}},
		{n: 5, l: [][]int{{3}, {3}}, assume: []int{3}, forced: []int{3}},
		{n: 5, l: [][]int{{5}, {-1}}, forced: []int{-1, 5}},
		{n: 1, l: [][]int{{1}}, forced: []int{1}},
		{n: 1, l: [][]int{{-1, -1}}, forced: []int{-1}},
		{n: 2, l: [][]int{{1, 2}}},
		{n: 2, l: [][]int{{1, 2}}, assume: []int{1}, forced: []int{1}},
		{n: 2, l: [][]int{{1, 2}}, assume: []int{2}, forced: []int{2}},
		{n: 2, l: [][]int{{1, 2}}, assume: []int{-1}, forced: []int{-1, 2}},
		{n: 2, l: [][]int{{1, 2}}, assume: []int{-2}, forced: []int{1, -2}},
		{n: 2, l: [][]int{{1, 2}}, assume: []int{1, 2}, forced: []int{1, 2}},
		{n: 2, l: [][]int{{-1, -2}}, assume: []int{2}, forced: []int{-1, 2}},
		{n: 3, l: [][]int{{1, 2, 3}}, assume: []int{-2}, forced: []int{-2}},
		{n: 3, l: [][]int{{1, 2, 3}}, assume: []int{-2, -1}, forced: []int{-1, -2, 3}},
		{n: 3, l: [][]int{{1, 2, 3}}, assume: []int{-3, -2}, forced: []int{1, -2, -3}},
		{n: 3, l: [][]int{{1, 2, 3}}, assume: []int{-3, -1}, forced: []int{-1, 2, -3}},
		{n: 3, l: [][]int{{1, 2, 3}}, assume: []int{-3, -1, 2}, forced: []int{-1, 2, -3}},
		// What no model lacks isn't forced, unless a clause by itself forces it.
		{n: 2, l: [][]int{{1, 2}, {1, -2}}},
		{n: 2, l: [][]int{{1, 2}, {1, -2}, {-1, 2}, {-1, -2}}},
	} {
		checkClose(t, x.n, x.l, x.assume, x.forced, x.clash)
	}
}

// P4.1: literals that stand twice, or both ways, in a clause.
func TestCloseTwiceAndBothWays(t *testing.T) {
	for _, x := range []closed{
		{n: 2, l: [][]int{{1, 1}}, forced: []int{1}},
		{n: 2, l: [][]int{{1, 1, 1, 1}}, forced: []int{1}},
		{n: 2, l: [][]int{{1, 1}}, assume: []int{-1}, clash: true},
		{n: 2, l: [][]int{{1, 1, 2}}},
		{n: 2, l: [][]int{{1, 2, 1}}},
		{n: 2, l: [][]int{{2, 1, 1}}},
		{n: 2, l: [][]int{{1, 1, 2}}, assume: []int{-2}, forced: []int{1, -2}},
		{n: 2, l: [][]int{{1, 2, 1}}, assume: []int{-2}, forced: []int{1, -2}},
		{n: 2, l: [][]int{{2, 1, 1}}, assume: []int{-2}, forced: []int{1, -2}},
		{n: 2, l: [][]int{{1, 2, 1, 2}}, assume: []int{-1}, forced: []int{-1, 2}},
		{n: 2, l: [][]int{{1, 2, 1, 2}}, assume: []int{-1, -2}, clash: true},
		{n: 3, l: [][]int{{1, 2, 1, 2, 3, 1}, {-3}}, forced: []int{-3}},
		{n: 3, l: [][]int{{1, 2, 1, 2, 3, 1}, {-3, -1}, {1}}, forced: []int{1, -3}},
		{n: 3, l: [][]int{{1, 2, 1, 2, 1}, {-3, -1}, {3}}, forced: []int{-1, 2, 3}},
		{n: 2, l: [][]int{{1, -1}}},
		{n: 2, l: [][]int{{1, -1}}, assume: []int{1}, forced: []int{1}},
		{n: 2, l: [][]int{{1, -1}}, assume: []int{-1}, forced: []int{-1}},
		{n: 2, l: [][]int{{-1, 1, 1}}, assume: []int{-1}, forced: []int{-1}},
		{n: 2, l: [][]int{{1, -1, 2}}, assume: []int{-2}, forced: []int{-2}},
		{n: 2, l: [][]int{{1, 2, -1}}, assume: []int{-2, 1}, forced: []int{1, -2}},
		{n: 2, l: [][]int{{1, 2, -1}, {1, 1}, {-2, -2}}, forced: []int{1, -2}},
		{n: 2, l: [][]int{{1, 2, -1}, {-1}, {-2}}, forced: []int{-1, -2}},
	} {
		checkClose(t, x.n, x.l, x.assume, x.forced, x.clash)
		checkClose(t, x.n, backwards(x.l), x.assume, x.forced, x.clash)
	}
}

// P4.1: where they clash nothing is told.
func TestCloseClash(t *testing.T) {
	for _, x := range []closed{
		{l: [][]int{{}}},
		{l: [][]int{nil}},
		{n: 2, l: [][]int{{}}},
		{n: 2, l: [][]int{{}}, assume: []int{1}},
		{n: 2, l: [][]int{{1}, {}, {2}}},
		{n: 2, l: [][]int{{1, 2}, {}}},
		{n: 2, assume: []int{1, -1}},
		{n: 2, assume: []int{-1, 1}},
		{n: 2, assume: []int{2, 1, 2, -2}},
		{n: 2, l: [][]int{{1}, {-1}}},
		{n: 2, l: [][]int{{-1}, {1}}},
		{n: 2, l: [][]int{{1}}, assume: []int{-1}},
		{n: 2, l: [][]int{{-2}}, assume: []int{2}},
		{n: 2, l: [][]int{{1, 2}}, assume: []int{-1, -2}},
		{n: 2, l: [][]int{{1, 2}, {-1}, {-2}}},
		{n: 3, l: [][]int{{1, 2, 3}, {-1}, {-3}, {-2}}},
		{n: 2, l: [][]int{{1, 2}, {1, -2}}, assume: []int{-1}},
		{n: 2, l: [][]int{{1, 2}, {1, -2}}, assume: []int{-1, 2}},
		{n: 3, l: [][]int{{-1, 2}, {-1, -2}, {1}}},
		{n: 4, l: [][]int{{-1, 2}, {-2, 3}, {-3, 4}, {-4, -1}}, assume: []int{1}},
		{n: 4, l: [][]int{{-1, 2}, {-1, 3}, {-1, 4}, {-2, -3, -4}}, assume: []int{1}},
		{n: 9, l: [][]int{{9}, {5}, {7}, {-9}}},
	} {
		checkClose(t, x.n, x.l, x.assume, nil, true)
		checkClose(t, x.n, backwards(x.l), x.assume, nil, true)
	}
}

// orders tells a row in each of its orders.
func orders[T any](row []T, tell func([]T)) {
	if len(row) == 0 {
		tell(nil)
		return
	}
	for i := range row {
		rest := slices.Delete(slices.Clone(row), i, i+1)
		orders(rest, func(r []T) { tell(append(slices.Clone(r), row[i])) })
	}
}

// P4.1: what is forced only by what was forced before, in each order of clauses.
func TestCloseInAnyOrder(t *testing.T) {
	for _, x := range []closed{
		{n: 6, l: [][]int{{-1, 2}, {-2, -3}, {3, 4}, {-4, 1, 5}, {-5, -4}}, assume: []int{1}, forced: []int{1, 2, -3, 4, -5}},
		{n: 6, l: [][]int{{6}, {-6, -5}, {5, 4}, {5, -4, 3}, {-3, -4, 5, -2}}, forced: []int{-2, 3, 4, -5, 6}},
		{n: 6, l: [][]int{{6}, {-6, 5}, {-5, 4}, {-4, 3}, {-3, -6}}, clash: true},
		{n: 6, l: [][]int{{1, 2}, {1, -2}, {3, 4}, {-3, -4, 5}, {4, 6}}, assume: []int{-4}, forced: []int{3, -4, 6}},
		{n: 6, l: [][]int{{-1, 2}, {-1, 3}, {-2, -3, 4}, {-4, 5, -5}, {-4, -1, 6, 6}}, assume: []int{1}, forced: []int{1, 2, 3, 4, 6}},
		{n: 6, l: [][]int{{-1, 2}, {-2, 3}, {-3, 4}, {-1, -2, -3, -4, 5}, {6, -5}}, assume: []int{1}, forced: []int{1, 2, 3, 4, 5, 6}},
		{n: 6, l: [][]int{{-1, 2}, {-2, 3}, {-3, 4}, {-4, -3, -2, -1}, {6, -5}}, assume: []int{1}, clash: true},
	} {
		orders(x.l, func(l [][]int) { checkClose(t, x.n, l, x.assume, x.forced, x.clash) })
	}
	l := [][]int{{-1, -2, 3}, {-3, -4, 5}}
	orders([]int{1, 2, 4, 2}, func(a []int) { checkClose(t, 5, l, a, run(1, 5), false) })
	orders([]int{1, 2, 4, -5}, func(a []int) { checkClose(t, 5, l, a, nil, true) })
	orders([]int{-1, -2, -3, 4, 5}, func(c []int) {
		checkClose(t, 5, [][]int{c}, []int{1, 2, 3, -4}, []int{1, 2, 3, -4, 5}, false)
		checkClose(t, 5, [][]int{c}, []int{-5, 2, 3, -4}, []int{-1, 2, 3, -4, -5}, false)
		checkClose(t, 5, [][]int{c}, []int{1, 2, 3, -4, -5}, nil, true)
	})
}

// smallClauses are all clauses of two variables with up to three literals.
func smallClauses() [][]int {
	out := [][]int{{}}
	for from := 0; len(out[from]) < 3; from++ {
		for _, x := range []int{1, -1, 2, -2} {
			out = append(out, append(slices.Clone(out[from]), x))
		}
	}
	return out
}

// P4.1: held against the chapter's words, for all pairs of small clauses.
func TestCloseOfAllSmall(t *testing.T) {
	all := smallClauses()
	for _, c := range all {
		for _, d := range all {
			for _, assume := range [][]int{nil, {1}, {-1}, {2}, {-2}, {1, 2}, {-1, 2}, {-2, 1}, {-2, -1}} {
				l := [][]int{c, d}
				want, clash := plainly(2, l, assume)
				checkClose(t, 2, l, assume, want, clash)
			}
		}
	}
}

// some is a clause of up to so many literals.
func some(r *rand.Rand, n, most int) []int {
	var c []int
	for range r.Intn(most + 1) {
		c = append(c, (1+r.Intn(n))*(1-2*r.Intn(2)))
	}
	return c
}

// someClauses are few short clauses, or more and longer ones; empty ones are rare.
func someClauses(r *rand.Rand, n int) [][]int {
	var l [][]int
	for range r.Intn(3 * n) {
		c := some(r, n, 5)
		if len(c) == 0 && r.Intn(20) > 0 {
			c = []int{1 + r.Intn(n), -1 - r.Intn(n)}
		}
		l = append(l, c)
	}
	return l
}

// P4.1, P4.2: held against the chapter's words, for many formulas, and shuffled.
func TestAgainstPlainWords(t *testing.T) {
	r := rand.New(rand.NewSource(4))
	clashes := 0
	for range 20000 {
		n := 1 + r.Intn(9)
		l, assume := someClauses(r, n), some(r, n, 4)
		want, clash := plainly(n, l, assume)
		if clash {
			clashes++
		}
		checkClose(t, n, l, assume, want, clash)
		if unit.Refutes(n, l, turned(assume)) != clash {
			t.Fatalf("%v, %v: refuted: %v", l, assume, !clash)
		}
		r.Shuffle(len(l), func(i, k int) { l[i], l[k] = l[k], l[i] })
		for _, c := range append(l, assume) {
			r.Shuffle(len(c), func(i, k int) { c[i], c[k] = c[k], c[i] })
		}
		checkClose(t, n, l, assume, want, clash)
	}
	if clashes < 4000 || clashes > 16000 {
		t.Errorf("%d clashes: too few of the one or the other", clashes)
	}
}

// P4.1: chains of clauses as long as there may be, from both ends.
func TestCloseLongChain(t *testing.T) {
	const n = api.MaxClauses
	var l [][]int
	for x := 1; x < n; x++ {
		l = append(l, []int{x + 1, -x})
	}
	up, down := run(1, n), make([]int, n)
	for i, x := range up {
		down[i] = -x
	}
	for _, order := range [][][]int{l, backwards(l)} {
		checkClose(t, n, order, []int{1}, up, false)
		checkClose(t, n, order, []int{-n}, down, false)
		checkClose(t, n, order, []int{n}, []int{n}, false)
		checkClose(t, n, order, []int{1, -n}, nil, true)
		checkClose(t, n, append(slices.Clone(order), []int{-n, -1}), []int{1}, nil, true)
	}
}

// P4.1: the greatest clauses and variables that there may be.
func TestCloseGreatest(t *testing.T) {
	const n = api.MaxVars
	checkClose(t, n, [][]int{{n, -1}, {-n, 1}}, []int{1}, []int{1, n}, false)
	checkClose(t, n, [][]int{{n, -1}, {-n, 1}}, []int{-1}, []int{-1, -n}, false)
	checkClose(t, n, nil, run(1, n), run(1, n), false)
	checkClose(t, n, nil, append(run(1, n), -n), nil, true)
	long := run(1, api.MaxLits)
	others := turned(long)
	for _, at := range []int{0, 1, 500, 998, 999} {
		assume := slices.Delete(slices.Clone(others), at, at+1)
		want := slices.Clone(others)
		want[at] = at + 1
		checkClose(t, n, [][]int{long}, assume, want, false)
		checkClose(t, n, [][]int{long}, assume[1:], assume[1:], false)
	}
	checkClose(t, n, [][]int{long}, others, nil, true)
	many := slices.Repeat([][]int{long}, api.MaxClauses)
	if forced, clash := unit.Close(n, many, others[1:]); clash || len(forced) != api.MaxLits || forced[0] != 1 {
		t.Errorf("%d, %v", len(forced), clash)
	}
}

// P4.1: long clauses whose literals are turned one after the other.
func TestCloseLongClausesStepByStep(t *testing.T) {
	const n = api.MaxLits
	l := slices.Repeat([][]int{turned(run(1, n))}, 500)
	for x := n - 2; x > 0; x-- {
		l = append(l, []int{x + 1, -x})
	}
	want := append(run(1, n-1), -n)
	checkClose(t, n, l, []int{1}, want, false)
	checkClose(t, n, backwards(l), []int{1}, want, false)
	checkClose(t, n, append(l, []int{n}), []int{1}, nil, true)
}

// P4.2: what is refuted.
func TestRefutes(t *testing.T) {
	three := [][]int{{1, 2}, {-1, 2}, {1, -2}}
	for i, x := range []struct {
		n  int
		l  [][]int
		c  []int
		is bool
	}{
		{0, nil, nil, false}, {3, nil, nil, false}, {3, [][]int{{1}}, nil, false}, {3, three, nil, false}, {3, three, []int{}, false},
		{0, [][]int{{}}, nil, true}, {3, [][]int{{1, 2}, {}}, nil, true}, {3, [][]int{{1}, {-1}}, nil, true}, {3, [][]int{{-1, 2}, {1}, {-2}}, nil, true},
		{3, [][]int{{}}, []int{1}, true}, {3, [][]int{{1}, {-1}}, []int{3}, true},
		{3, three, []int{1, 2}, true}, {3, three, []int{2, 1}, true}, {3, three, []int{2, -1}, true}, {3, three, []int{1, -2, 3}, true}, {3, three, []int{1, 1, 2, 2}, true},
		{3, three, []int{1}, true}, {3, three, []int{2}, true}, {3, three, []int{-1}, false}, {3, three, []int{-2}, false}, {3, three, []int{-1, -2}, false}, {3, three, []int{3}, false}, {3, three, []int{-3}, false},
		{3, nil, []int{1}, false}, {3, nil, []int{1, 2, -3}, false}, {3, nil, []int{1, 1}, false}, {3, nil, []int{1, -1}, true}, {3, nil, []int{-3, 2, 3}, true}, {3, three, []int{3, -3}, true},
		{3, [][]int{{1}}, []int{1}, true}, {3, [][]int{{1}}, []int{-1}, false}, {3, [][]int{{1}}, []int{2, 1}, true}, {3, [][]int{{1}}, []int{2}, false},
		{3, [][]int{{-1, 2}, {-2, 3}}, []int{-1, 3}, true}, {3, [][]int{{-1, 2}, {-2, 3}}, []int{-1}, false}, {3, [][]int{{-1, 2}, {-2, 3}}, []int{3}, false}, {3, [][]int{{-1, 2}, {-2, 3}}, []int{1, -3}, false},
		{3, [][]int{{1, -1}}, []int{1}, false}, {3, [][]int{{1, -1}}, nil, false}, {3, [][]int{{3, 3}}, []int{3}, true},
		{3, append(slices.Clone(three), []int{-1, -2}), nil, false}, {3, append(slices.Clone(three), []int{-1, -2}), []int{1}, true}, {3, append(slices.Clone(three), []int{-1, -2}, []int{1}), nil, true},
		{api.MaxVars, [][]int{{api.MaxVars, -1}}, []int{-1, api.MaxVars}, true}, {api.MaxVars, [][]int{{api.MaxVars, -1}}, []int{1, -api.MaxVars}, false},
	} {
		beforeL, beforeC := cloned(x.l), slices.Clone(x.c)
		if is := unit.Refutes(x.n, x.l, x.c); is != x.is {
			t.Errorf("%d: %v, %v: %v", i, x.l, x.c, is)
		}
		if !slices.EqualFunc(x.l, beforeL, slices.Equal[[]int]) || !slices.Equal(x.c, beforeC) {
			t.Errorf("%d: %v, %v became %v, %v", i, beforeL, beforeC, x.l, x.c)
		}
	}
}

// P4.2: more clauses than a formula may have, as proofs add them.
func TestRefutesByMany(t *testing.T) {
	var l [][]int
	for x := range 2 * api.MaxClauses {
		l = append(l, []int{-x - 1, x + 2})
	}
	last := len(l) + 1
	if !unit.Refutes(last, l, []int{-1, last}) || unit.Refutes(last, l, []int{-2, 1}) || unit.Refutes(last, l, []int{last}) {
		t.Error("refutes")
	}
}

// P4.2: sorted, none twice.
func TestSort(t *testing.T) {
	for _, x := range []struct{ c, want []int }{
		{nil, nil}, {[]int{}, nil}, {[]int{7}, []int{7}}, {[]int{-7}, []int{-7}}, {[]int{7, 7}, []int{7}}, {[]int{-7, -7, -7}, []int{-7}},
		{[]int{7, -7}, []int{-7, 7}}, {[]int{-7, 7}, []int{-7, 7}}, {[]int{7, -7, 7, -7}, []int{-7, 7}},
		{[]int{1, 2}, []int{1, 2}}, {[]int{2, 1}, []int{1, 2}}, {[]int{-2, 1}, []int{1, -2}}, {[]int{-1, -2}, []int{-1, -2}}, {[]int{-2, -1}, []int{-1, -2}}, {[]int{2, -1}, []int{-1, 2}},
		{[]int{3, -1, 1, -2, 3, -1}, []int{-1, 1, -2, 3}}, {[]int{10, 9, -100, 2}, []int{2, 9, 10, -100}}, {[]int{2, 1, 2, 1, 2}, []int{1, 2}},
		{[]int{api.MaxVars, -api.MaxVars, 1, -1}, []int{-1, 1, -api.MaxVars, api.MaxVars}},
	} {
		before := slices.Clone(x.c)
		got := unit.Sort(x.c)
		if !slices.Equal(got, x.want) {
			t.Errorf("%v: %v, not %v", x.c, got, x.want)
		}
		if !slices.Equal(before, x.c) {
			t.Errorf("%v became %v", before, x.c)
		}
	}
	orders([]int{-1, 1, -2, 3, 3}, func(c []int) {
		if got := unit.Sort(c); !slices.Equal(got, []int{-1, 1, -2, 3}) {
			t.Errorf("%v: %v", c, got)
		}
	})
}

// P4.2: held against which literals there are, by their numbers.
func TestSortOfMany(t *testing.T) {
	r := rand.New(rand.NewSource(5))
	for range 2000 {
		n := 1 + r.Intn(30)
		c := some(r, n, 60)
		var want []int
		for v := 1; v <= n; v++ {
			for _, x := range []int{-v, v} {
				if slices.Contains(c, x) {
					want = append(want, x)
				}
			}
		}
		if got := unit.Sort(c); !slices.Equal(got, want) || !slices.Equal(unit.Sort(got), want) {
			t.Fatalf("%v: %v, not %v", c, got, want)
		}
	}
	if got := unit.Sort(slices.Concat(turned(run(1, 1000)), run(1, 1000))); len(got) != 2000 || got[0] != -1 || got[1999] != 1000 {
		t.Error("a long one")
	}
}

// R3: what comes out is memory of its own, and the room behind what is handed in is left alone.
func TestAnswersStandAlone(t *testing.T) {
	c := []int{1, -2, 3}
	sorted := unit.Sort(c)
	sorted[0] = 9
	if !slices.Equal(c, []int{1, -2, 3}) {
		t.Error(c)
	}
	room := []int{3, 3, 1, 77, 78}
	unit.Sort(room[:3])
	unit.Close(3, [][]int{room[:2]}, room[2:3])
	unit.Refutes(3, [][]int{room[:2]}, room[2:3])
	if !slices.Equal(room, []int{3, 3, 1, 77, 78}) {
		t.Error(room)
	}
	l, assume := [][]int{{-1, 2}, {-2, 3}}, []int{1}
	one, _ := unit.Close(3, l, assume)
	one[0] = -9
	checkClose(t, 3, l, assume, []int{1, 2, 3}, false)
	one, _ = unit.Close(3, nil, assume)
	one[0] = -9
	if assume[0] != 1 {
		t.Error(assume)
	}
}

// R1: no call panics, even at what no right formula has.
func TestWrongArguments(t *testing.T) {
	odd := []int{0, 1, -1, 2, -2, 100001, math.MaxInt, math.MinInt, math.MinInt + 1}
	for _, n := range []int{math.MinInt, -1, 0, 1, 100001, math.MaxInt} {
		for _, x := range odd {
			for _, y := range odd {
				l := [][]int{{x, y}, {y}, {-x, y, x}, {y, -y, 1}}
				for at := range l {
					unit.Close(n, l[at:], []int{x})
					unit.Close(n, l[:at], []int{y, -x})
					unit.Refutes(n, l[at:], []int{x, y})
				}
				if got := unit.Sort([]int{x, y, x}); len(got) == 0 || len(got) > 2 || !slices.Contains(got, x) || !slices.Contains(got, y) {
					t.Errorf("%d, %d: %v", x, y, got)
				}
			}
		}
	}
	if got := unit.Sort(odd); !slices.Equal(got, []int{0, -1, 1, -2, 2, 100001, math.MinInt + 1, math.MaxInt, math.MinInt}) {
		t.Error(got)
	}
}

// models tells those of n variables in which all clauses hold and all that is assumed.
func models(n int, l [][]int, assume []int, tell func(isTrue func(int) bool)) {
	for bits := range 1 << n {
		isTrue := func(x int) bool {
			if x < 0 {
				return bits>>(-x-1)&1 == 0
			}
			return bits>>(x-1)&1 == 1
		}
		all := true
		for _, c := range l {
			all = all && slices.ContainsFunc(c, isTrue)
		}
		for _, x := range assume {
			all = all && isTrue(x)
		}
		if all {
			tell(isTrue)
		}
	}
}

// P4.3: what is forced is true in each model; where they clash there is none.
func TestForcedIsTrueInModels(t *testing.T) {
	r := rand.New(rand.NewSource(6))
	seen := 0
	for range 4000 {
		n := 1 + r.Intn(6)
		l, assume := someClauses(r, n), some(r, n, 3)
		forced, clash := unit.Close(n, l, assume)
		refuted := unit.Refutes(n, l, assume)
		models(n, l, assume, func(isTrue func(int) bool) {
			seen++
			if clash {
				t.Fatalf("%v, %v clash, but have a model", l, assume)
			}
			for _, x := range forced {
				if !isTrue(x) {
					t.Fatalf("%v, %v: %d is forced, but false in a model", l, assume, x)
				}
			}
		})
		models(n, l, turned(assume), func(func(int) bool) {
			if refuted {
				t.Fatalf("%v: %v is refuted, but false in a model", l, assume)
			}
		})
		for _, x := range assume {
			if !clash && !slices.Contains(forced, x) {
				t.Fatalf("%v, %v: %d is assumed, but not forced", l, assume, x)
			}
		}
	}
	if seen < 4000 {
		t.Errorf("only %d models", seen)
	}
}

// P4.3: with more clauses, or more assumed, as much is forced, or they clash; what is forced forces no more.
func TestMoreForcesAsMuch(t *testing.T) {
	r := rand.New(rand.NewSource(7))
	for range 8000 {
		n := 1 + r.Intn(8)
		l, assume := someClauses(r, n), some(r, n, 3)
		forced, clash := unit.Close(n, l, assume)
		moreL := slices.Concat(someClauses(r, n), l, someClauses(r, n))
		moreA := slices.Concat(some(r, n, 1), assume, some(r, n, 1))
		for _, x := range []struct {
			l [][]int
			a []int
		}{{moreL, assume}, {l, moreA}, {moreL, moreA}} {
			more, moreClash := unit.Close(n, x.l, x.a)
			if clash && !moreClash {
				t.Fatalf("%v, %v clash, but %v, %v don't", l, assume, x.l, x.a)
			}
			for _, y := range forced {
				if !moreClash && !slices.Contains(more, y) {
					t.Fatalf("%v, %v: %d is forced, but not by %v, %v", l, assume, y, x.l, x.a)
				}
			}
		}
		if !clash {
			checkClose(t, n, l, forced, forced, false)
		}
	}
}
