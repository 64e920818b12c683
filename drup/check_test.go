package drup_test

import (
	"math"
	"math/rand"
	"slices"
	"testing"

	"vidimus/api"
	"vidimus/drup"
)

// four is a formula without a model, of which a proof needs two steps.
func four() [][]int { return [][]int{{1, 2}, {1, -2}, {-1, 2}, {-1, -2}} }

// checkProof holds what Check answers, and that it changes nothing.
func checkProof(t *testing.T, f api.Cnf, p []api.Step, at int, e api.Errno) {
	t.Helper()
	beforeN, beforeC, beforeP := f.N, make([][]int, len(f.C)), cloned(p)
	for i, c := range f.C {
		beforeC[i] = slices.Clone(c)
	}
	gotAt, gotE := drup.Check(f, p)
	if gotAt != at || gotE != e {
		t.Errorf("%.200v, %.200v: %d, %d; not %d, %d", f, p, gotAt, gotE, at, e)
	}
	if f.N != beforeN || !slices.EqualFunc(f.C, beforeC, slices.Equal[[]int]) || !drup.Same(p, beforeP) {
		t.Errorf("%v, %v became %v, %v", beforeC, beforeP, f, p)
	}
}

type checked struct {
	c  [][]int
	p  []api.Step
	at int
	e  api.Errno
}

func checkAll(t *testing.T, all []checked) {
	t.Helper()
	for _, x := range all {
		checkProof(t, api.Cnf{N: 3, C: x.c}, x.p, x.at, x.e)
	}
}

// P5.2: the place of the step that adds the empty clause.
func TestCheckDone(t *testing.T) {
	checkAll(t, []checked{
		{four(), []api.Step{add(1), add()}, 1, api.OK},
		{four(), []api.Step{add(-2), add()}, 1, api.OK},
		{four(), []api.Step{add(1, 3), add(1), add()}, 2, api.OK},
		{four(), []api.Step{add(3, -3), add(1, 1), add()}, 2, api.OK},
		{[][]int{{1}, {-1}}, []api.Step{add()}, 0, api.OK},
		{[][]int{{1}, {-1, 2}, {-2, 3}, {-3}}, []api.Step{add()}, 0, api.OK},
		// Where the clauses clash by themselves, all is refuted.
		{four(), []api.Step{add(1), add(3), add()}, 2, api.OK},
		{[][]int{{1}, {-1}}, []api.Step{add(2), add(-2), take(1), take(-1), add()}, 4, api.OK},
		// What is added refutes as well as what there was, even when that is gone.
		{four(), []api.Step{add(1), take(1, 2), take(1, -2), add()}, 3, api.OK},
		{four(), []api.Step{add(1), add(2), take(1, 2), take(1, -2), take(-1, 2), add()}, 5, api.OK},
	})
}

// P5.2: a formula that has the empty clause needs a step that adds it all the same.
func TestCheckEmptyClause(t *testing.T) {
	checkAll(t, []checked{
		{[][]int{{}}, nil, 0, api.ErrProof},
		{[][]int{{}}, []api.Step{add()}, 0, api.OK},
		{[][]int{nil}, []api.Step{add(1)}, 1, api.ErrProof},
		{[][]int{{}}, []api.Step{add(1), add(2), add()}, 2, api.OK},
		{[][]int{{}}, []api.Step{take()}, 1, api.ErrProof},
		{[][]int{nil}, []api.Step{take(), add()}, 1, api.ErrProof},
		{[][]int{{}}, []api.Step{take(), take()}, 1, api.ErrNone},
		{[][]int{{}}, []api.Step{take(1)}, 0, api.ErrNone},
		{[][]int{{}, {1}}, []api.Step{take(1), add()}, 1, api.OK},
		{[][]int{{1}, {}, {}}, []api.Step{take(), add()}, 1, api.OK},
		{[][]int{{}, {}}, []api.Step{take(), take(), add()}, 2, api.ErrProof},
		{append(four(), []int{}), []api.Step{take(), add()}, 1, api.ErrProof},
		{append(four(), []int{}), []api.Step{take(), add(1), add()}, 2, api.OK},
		{four(), []api.Step{take()}, 0, api.ErrNone},
	})
}

// P5.2: steps that add what is not refuted, and proofs in which none adds the empty clause.
func TestCheckProvesNothing(t *testing.T) {
	checkAll(t, []checked{
		{nil, nil, 0, api.ErrProof}, {four(), nil, 0, api.ErrProof}, {four(), []api.Step{}, 0, api.ErrProof}, {[][]int{{1}, {-1}}, nil, 0, api.ErrProof},
		{nil, []api.Step{add()}, 0, api.ErrProof}, {nil, []api.Step{add(1)}, 0, api.ErrProof}, {nil, []api.Step{add(1, -1)}, 1, api.ErrProof}, {nil, []api.Step{add(1, -1), add()}, 1, api.ErrProof},
		{four(), []api.Step{add()}, 0, api.ErrProof}, {four(), []api.Step{add(3)}, 0, api.ErrProof}, {four(), []api.Step{add(3), add(1), add()}, 0, api.ErrProof}, {[][]int{{1}}, []api.Step{add()}, 0, api.ErrProof},
		{four(), []api.Step{add(1)}, 1, api.ErrProof}, {four(), []api.Step{add(1), add(2), take(1)}, 3, api.ErrProof}, {four(), many(7, add(1)), 7, api.ErrProof},
		{[][]int{{1, 2}}, []api.Step{add(1, 2, 3), add(1), add()}, 1, api.ErrProof}, {[][]int{{1, 2}}, []api.Step{add(2, 1), add(1, 2, -3), add()}, 2, api.ErrProof},
		// What is taken away refutes nothing any more.
		{four(), []api.Step{take(1, 2), add(1)}, 1, api.ErrProof}, {four(), []api.Step{add(1), take(1), add()}, 2, api.ErrProof}, {[][]int{{1}, {-1}}, []api.Step{take(-1), add()}, 1, api.ErrProof},
	})
}

// P5.2: steps that take away, in whatever order, and as often as it is there.
func TestCheckTakesAway(t *testing.T) {
	checkAll(t, []checked{
		{nil, []api.Step{take(1)}, 0, api.ErrNone}, {four(), []api.Step{take(1)}, 0, api.ErrNone}, {four(), []api.Step{take(-1)}, 0, api.ErrNone}, {four(), []api.Step{take(1, 2, 3)}, 0, api.ErrNone}, {four(), []api.Step{take(1, 3)}, 0, api.ErrNone}, {four(), []api.Step{take(1, -1)}, 0, api.ErrNone},
		{four(), []api.Step{take(1, 2)}, 1, api.ErrProof}, {four(), []api.Step{take(2, 1)}, 1, api.ErrProof}, {four(), []api.Step{take(-2, 1, 1, -2)}, 1, api.ErrProof}, {four(), []api.Step{take(-2, -1), take(2, -1), take(1, -2), take(2, 1)}, 4, api.ErrProof},
		{four(), []api.Step{take(1, 2), take(1, 2)}, 1, api.ErrNone}, {four(), []api.Step{take(1, 2), take(2, 1, 2)}, 1, api.ErrNone}, {four(), []api.Step{add(1), take(1), take(1)}, 2, api.ErrNone}, {four(), []api.Step{add(1), take(2), add()}, 1, api.ErrNone},
		{[][]int{{1, 1}}, []api.Step{take(1)}, 1, api.ErrProof}, {[][]int{{1}}, []api.Step{take(1, 1, 1)}, 1, api.ErrProof}, {[][]int{{1, 1}}, []api.Step{take(1, 1), take(1, 1)}, 1, api.ErrNone}, {[][]int{{3, 1, 3, 2, 1}}, []api.Step{take(2, 3, 1)}, 1, api.ErrProof}, {[][]int{{3, 1, 3, 2, 1}}, []api.Step{take(3, 1)}, 0, api.ErrNone},
		{[][]int{{1, -1}}, []api.Step{take(-1, 1)}, 1, api.ErrProof}, {[][]int{{1, -1}}, []api.Step{take(1)}, 0, api.ErrNone}, {[][]int{{-1, 1, -1}}, []api.Step{take(1, 1, -1), take(1, -1)}, 1, api.ErrNone},
		{four(), []api.Step{add(1, 2, 1), take(1, 2), take(1, 2), take(2, 1)}, 3, api.ErrNone}, {four(), []api.Step{add(2, 3, 1), take(1, 2, 3)}, 2, api.ErrProof},
	})
}

// P5.2: of a clause that is there twice one is left.
func TestCheckTakesOneAway(t *testing.T) {
	twice := append(four(), []int{2, 1})
	checkAll(t, []checked{
		{twice, []api.Step{take(1, 2), add(1), add()}, 2, api.OK},
		{twice, []api.Step{take(2, 1), take(1, 2), add(1)}, 2, api.ErrProof},
		{twice, []api.Step{take(2, 1), take(1, 2), take(1, 2)}, 2, api.ErrNone},
		{[][]int{{1}, {2}, {1}, {-1}}, []api.Step{take(1), add()}, 1, api.OK},
		{[][]int{{1}, {2}, {1}, {-1}}, []api.Step{take(1), take(1), add()}, 2, api.ErrProof},
		{[][]int{{1}, {-1}}, []api.Step{add(1), take(1), add()}, 2, api.OK},
		{[][]int{{1}, {-1}}, []api.Step{add(1), take(1), take(1), add()}, 3, api.ErrProof},
		{[][]int{{1}, {-1}}, []api.Step{add(1), add(1), take(1), take(1), add()}, 4, api.OK},
		// Taken away and added again it refutes again.
		{[][]int{{1}, {-1}}, []api.Step{add(-1), take(1), add(1)}, 2, api.ErrProof},
		{four(), []api.Step{add(1), take(1, 2), add(2, 1), take(1), add(1), add()}, 5, api.OK},
	})
}

// P5.2, P5.3: steps behind the one that adds the empty clause count for nothing, right or wrong.
func TestCheckBehindTheEmptyClause(t *testing.T) {
	f := api.Cnf{N: 3, C: four()}
	for _, s := range []api.Step{add(), add(1), add(3), take(), take(1), take(3), take(1, 2), add(4), add(0), take(-9), add(math.MinInt)} {
		checkProof(t, f, []api.Step{add(1), add(), s}, 1, api.OK)
		checkProof(t, f, append([]api.Step{add(1), add()}, many(9, s)...), 1, api.OK)
	}
	// The first one counts, not a later one; one that can't be done is none.
	checkProof(t, f, []api.Step{add(1), add(), add(), add()}, 1, api.OK)
	checkProof(t, f, []api.Step{add(), add(1), add()}, 0, api.ErrProof)
}

// P5.2: clauses, variables and steps as many as there may be.
func TestCheckGreatest(t *testing.T) {
	const n = api.MaxVars
	checkProof(t, api.Cnf{N: n, C: [][]int{{n, 1}, {n, -1}, {-n}}}, []api.Step{add(-n, 1), add()}, 1, api.OK)
	checkProof(t, api.Cnf{}, nil, 0, api.ErrProof)
	checkProof(t, api.Cnf{C: [][]int{{}}}, []api.Step{add()}, 0, api.OK)
	var chain api.Cnf
	chain.N = n
	for x := 1; x < api.MaxClauses; x++ {
		chain.C = append(chain.C, []int{-x, x + 1})
	}
	chain.C = append(chain.C, []int{1})
	last := api.MaxClauses
	checkProof(t, chain, []api.Step{add(last), add(-1, last), take(1), add(-last)}, 3, api.ErrProof)
	checkProof(t, chain, []api.Step{add(last), take(1), add(1)}, 2, api.ErrProof)
	checkProof(t, chain, []api.Step{take(2, -1), add(last)}, 1, api.ErrProof)
	lits := make([]int, api.MaxLits)
	full := api.Cnf{N: n}
	for i := range lits {
		lits[i] = i + 1
		full.C = append(full.C, []int{-i - 1})
	}
	full.C = append(full.C, lits)
	turned := slices.Clone(lits)
	slices.Reverse(turned)
	checkProof(t, full, []api.Step{add(turned...), take(turned...), add()}, 2, api.OK)
	checkProof(t, full, []api.Step{take(turned...), add()}, 1, api.ErrProof)
	checkProof(t, full, []api.Step{take(turned[1:]...)}, 0, api.ErrNone)
	checkProof(t, api.Cnf{N: 1, C: slices.Repeat([][]int{{1}}, api.MaxClauses)}, many(api.MaxClauses, take(1)), api.MaxClauses, api.ErrProof)
	checkProof(t, api.Cnf{N: 1, C: slices.Repeat([][]int{{1}}, api.MaxClauses-1)}, many(api.MaxClauses, take(1)), api.MaxClauses-1, api.ErrNone)
}

// set is a clause of few variables as a set: bit 2v-2 for v, bit 2v-1 for -v.
type set uint32

func bitOf(x int) set {
	if x > 0 {
		return 1 << (2*x - 2)
	}
	return 1 << (-2*x - 1)
}

func setOf(c []int) set {
	var s set
	for _, x := range c {
		s |= bitOf(x)
	}
	return s
}

const firsts set = 0x55555555

// turn is each literal the other way round.
func (s set) turn() set { return s&firsts<<1 | s>>1&firsts }

// refutes: do clauses clash with c's literals, each the other way round? By chapter 4's words, one after the other.
func refutes(l []set, c set) bool {
	forced := c.turn()
	for {
		before := forced
		for _, d := range l {
			left := d &^ forced.turn()
			if left == 0 {
				return true
			}
			if left&(left-1) == 0 {
				forced |= left
			}
		}
		if forced&forced.turn() != 0 {
			return true
		}
		if forced == before {
			return false
		}
	}
}

// plainly is Check by the chapter's words.
func plainly(f api.Cnf, p []api.Step) (int, api.Errno) {
	var l []set
	for _, c := range f.C {
		l = append(l, setOf(c))
	}
	for at, s := range p {
		c := setOf(s.C)
		if s.Del {
			i := slices.Index(l, c)
			if i < 0 {
				return at, api.ErrNone
			}
			l = append(l[:i:i], l[i+1:]...)
			continue
		}
		if !refutes(l, c) {
			return at, api.ErrProof
		}
		if c == 0 {
			return at, api.OK
		}
		l = append(l, c)
	}
	return len(p), api.ErrProof
}

// hasModel: is there a model, of all that there are?
func hasModel(f api.Cnf) bool {
	for bits := range 1 << f.N {
		isTrue := func(x int) bool {
			if x < 0 {
				return bits>>(-x-1)&1 == 0
			}
			return bits>>(x-1)&1 == 1
		}
		if !slices.ContainsFunc(f.C, func(c []int) bool { return !slices.ContainsFunc(c, isTrue) }) {
			return true
		}
	}
	return false
}

// P5.2, P5.3: all formulas of two variables whose clauses have each variable at most once, and all proofs of up to two steps.
func TestCheckAllSmall(t *testing.T) {
	clauses := append([][]int{nil, {1}, {-1}, {2}, {-2}}, four()...)
	proofs := [][]api.Step{nil}
	for from := 0; len(proofs[from]) < 2; from++ {
		for _, c := range clauses {
			for _, s := range []api.Step{add(c...), take(c...)} {
				proofs = append(proofs, append(slices.Clone(proofs[from]), s))
			}
		}
	}
	for which := range 1 << len(clauses) {
		f := api.Cnf{N: 2}
		for i, c := range clauses {
			if which>>i&1 == 1 {
				f.C = append(f.C, c)
			}
		}
		is := hasModel(f)
		for _, p := range proofs {
			at, e := drup.Check(f, p)
			if wantAt, wantE := plainly(f, p); at != wantAt || e != wantE {
				t.Fatalf("%v, %v: %d, %d; not %d, %d", f, p, at, e, wantAt, wantE)
			}
			if is && e == api.OK {
				t.Fatalf("%v has a model, and the proof %v", f, p)
			}
		}
	}
}

// some is a clause of up to so many literals.
func some(r *rand.Rand, n, most int) []int {
	var c []int
	for range r.Intn(most + 1) {
		c = append(c, (1+r.Intn(n))*(1-2*r.Intn(2)))
	}
	return c
}

// someStep can mostly be done: it takes away what is there or was, or adds what is refuted.
func someStep(r *rand.Rand, f api.Cnf, p []api.Step) api.Step {
	if r.Intn(30) == 0 {
		return api.Step{Del: r.Intn(2) == 0, C: some(r, f.N, 3)}
	}
	told := slices.Clone(f.C)
	for _, s := range p {
		told = append(told, s.C)
	}
	c := slices.Clone(told[r.Intn(len(told))])
	r.Shuffle(len(c), func(i, k int) { c[i], c[k] = c[k], c[i] })
	if r.Intn(5) == 0 {
		return take(append(c, c[:min(1, len(c))]...)...)
	}
	for range 50 {
		s := add(some(r, f.N, 2)...)
		if at, e := plainly(f, append(slices.Clone(p), s)); at > len(p) || e == api.OK {
			return s
		}
	}
	return add(c...)
}

// someFormula has a model or none, either often.
func someFormula(r *rand.Rand) api.Cnf {
	f := api.Cnf{N: 2 + r.Intn(4)}
	for range 1 + r.Intn(7*f.N) {
		c := some(r, f.N, 3)
		if len(c) < 2 && r.Intn(10) > 0 {
			c = append(c, 1+r.Intn(f.N), -1-r.Intn(f.N))
		}
		f.C = append(f.C, c)
	}
	return f
}

// P5.2, P5.3: held against the chapter's words and against all models, for many formulas.
func TestCheckAgainstPlainWords(t *testing.T) {
	r := rand.New(rand.NewSource(52))
	seen := map[api.Errno]int{}
	longest := 0
	for range 6000 {
		f := someFormula(r)
		var p []api.Step
		for range r.Intn(12) {
			p = append(p, someStep(r, f, p))
		}
		at, e := plainly(f, p)
		checkProof(t, f, p, at, e)
		if e == api.OK && hasModel(f) {
			t.Fatalf("%v has a model, and the proof %v", f, p)
		}
		for cut := range p {
			cutAt, cutE := plainly(f, p[:cut])
			checkProof(t, f, p[:cut], cutAt, cutE)
		}
		seen[e]++
		if e == api.OK {
			longest = max(longest, at)
		}
	}
	if seen[api.OK] < 500 || seen[api.ErrProof] < 500 || seen[api.ErrNone] < 200 || longest < 5 {
		t.Errorf("too few of some: %v, longest %d", seen, longest)
	}
}

// R3: the room behind what is handed in is left alone.
func TestCheckLeavesRoomAlone(t *testing.T) {
	room := []int{1, 2, 77, 78}
	rows := [][]int{room[:2], {1, -2}, {-1, 2}, {-1, -2}, {7}}
	steps := []api.Step{add(1), take(2, 1), add(), add(8)}
	if at, e := drup.Check(api.Cnf{N: 2, C: rows[:4]}, steps[:3]); at != 2 || e != api.OK {
		t.Error(at, e)
	}
	if !slices.Equal(room, []int{1, 2, 77, 78}) || rows[4][0] != 7 || len(rows[0]) != 2 || !drup.Same(steps, []api.Step{add(1), take(2, 1), add(), add(8)}) {
		t.Error(room, rows, steps)
	}
}

// R1: no call panics, even at what is not right.
func TestWrongArguments(t *testing.T) {
	odd := []int{0, 1, -1, 3, 100001, math.MaxInt, math.MinInt, math.MinInt + 1}
	for _, n := range []int{math.MinInt, -1, 0, 1, 100001, math.MaxInt} {
		for _, x := range odd {
			for _, y := range odd {
				p := []api.Step{add(x, y), take(y, x), add(-x), take(y), add()}
				for at := range p {
					drup.Check(api.Cnf{N: n, C: [][]int{{x}, {y, -x}}}, p[at:])
					drup.Print(p[at:])
					drup.Right(n, p[at:])
				}
			}
		}
	}
}
