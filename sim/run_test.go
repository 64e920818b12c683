package sim_test

import (
	"math"
	"math/rand"
	"slices"
	"testing"

	"vidimus/aig"
	"vidimus/api"
	"vidimus/sim"
)

// P8.3: what latches are at first: 0, 1, or what free says.
func TestStart(t *testing.T) {
	a := api.Aig{I: 1, L: []api.Latch{{Next: 1, Reset: 0}, {Next: 0, Reset: 1}, {Next: 1, Reset: 8}, {Next: 0, Reset: 10}}}
	if !aig.Right(a) {
		t.Fatal("not right")
	}
	for _, free := range allRows(4) {
		want := "01" + text(free[2:])
		if s, e := sim.Start(a, free); text(s) != want || e != api.OK {
			t.Errorf("%s: %s, %d", text(free), text(s), e)
		}
	}
	for _, x := range []struct {
		latch      api.Latch
		free, want string
	}{
		{api.Latch{Reset: 0}, "0", "0"}, {api.Latch{Reset: 0}, "1", "0"}, {api.Latch{Reset: 1}, "0", "1"}, {api.Latch{Reset: 1}, "1", "1"},
		{api.Latch{Reset: 2}, "0", "0"}, {api.Latch{Reset: 2}, "1", "1"}, {api.Latch{Next: 1, Reset: 2}, "0", "0"}, {api.Latch{Next: 3, Reset: 2}, "1", "1"},
	} {
		if s, e := sim.Start(api.Aig{L: []api.Latch{x.latch}}, bits(x.free)); text(s) != x.want || e != api.OK {
			t.Errorf("%v, %s: %s, %d", x.latch, x.free, text(s), e)
		}
	}
	for _, free := range [][]bool{nil, {}} {
		if s, e := sim.Start(api.Aig{I: 3}, free); len(s) != 0 || e != api.OK {
			t.Errorf("of no latches: %v, %d", s, e)
		}
	}
}

// P8.3: free has a value of each latch, else ErrShape, and nothing.
func TestStartShape(t *testing.T) {
	for latches := range 5 {
		a := api.Aig{I: 2, L: make([]api.Latch, latches)}
		for n := range 7 {
			if n == latches {
				continue
			}
			free := slices.Repeat([]bool{true}, n)
			if s, e := sim.Start(a, free); s != nil || e != api.ErrShape {
				t.Errorf("%d of %d: %v, %d", n, latches, s, e)
			}
			for _, in := range [][][]bool{nil, rows("11"), rows("11", "1")} {
				if r, e := sim.Run(a, free, in); r != nil || e != api.ErrShape {
					t.Errorf("%d of %d: %v, %d", n, latches, r, e)
				}
			}
		}
	}
	a := api.Aig{L: make([]api.Latch, 1)}
	if s, e := sim.Start(a, nil); s != nil || e != api.ErrShape {
		t.Errorf("%v, %d", s, e)
	}
	if r, e := sim.Run(a, nil, nil); r != nil || e != api.ErrShape {
		t.Errorf("%v, %d", r, e)
	}
}

// P8.3: the states, from the first one on.
func TestRun(t *testing.T) {
	turned := func(reset int) api.Aig { return api.Aig{L: []api.Latch{{Next: 3, Reset: reset}}} }
	// A row of latches that an input goes through.
	row := api.Aig{I: 1, L: []api.Latch{{Next: 2, Reset: 4}, {Next: 4, Reset: 6}, {Next: 6, Reset: 1}}}
	// A latch that stays what it is, or becomes an input, as the other input says.
	kept := api.Aig{I: 2, L: []api.Latch{{Next: 13, Reset: 6}}, G: []api.And{{A: 4, B: 2}, {A: 6, B: 3}, {A: 11, B: 9}}}
	for _, x := range []struct {
		name string
		a    api.Aig
		free string
		in   [][]bool
		want string
	}{
		{"turned from 0", turned(0), "1", rows("", ""), "0 1 0"},
		{"turned from 1", turned(1), "0", rows("", "", ""), "1 0 1 0"},
		{"turned from free", turned(2), "1", rows("", ""), "1 0 1"},
		{"turned from free", turned(2), "0", rows("", ""), "0 1 0"},
		{"no rows", turned(1), "0", nil, "1"},
		{"no rows, no nil", turned(1), "0", [][]bool{}, "1"},
		{"no rows, inputs", row, "100", nil, "101"},
		{"one row", row, "000", rows("1"), "001 100"},
		{"some rows", row, "010", rows("1", "0", "1", "1"), "011 101 010 101 110"},
		{"kept", kept, "0", rows("00", "11", "00", "01", "10", "00"), "0 0 1 1 1 0 0"},
		{"nothing", api.Aig{}, "", nil, ""},
		{"inputs alone", api.Aig{I: 2}, "", rows("11", "00"), "  "},
		{"constants", api.Aig{L: []api.Latch{{Next: 1}, {Next: 0, Reset: 1}}}, "11", rows("", ""), "01 10 10"},
		{"all at once", api.Aig{L: []api.Latch{{Next: 4, Reset: 2}, {Next: 2, Reset: 4}}}, "10", rows("", "", ""), "10 01 10 01"},
	} {
		r, e := sim.Run(x.a, bits(x.free), x.in)
		if texts(r) != x.want || len(r) != len(x.in)+1 || e != api.OK || !aig.Right(x.a) {
			t.Errorf("%s: %s (%d), %d; not %s", x.name, texts(r), len(r), e, x.want)
		}
	}
}

// P8.3: a row of another length, wherever it is, tells ErrShape, and nothing.
func TestRunShape(t *testing.T) {
	for inputs := range 4 {
		a := api.Aig{I: inputs, L: []api.Latch{{Next: 1, Reset: 2}}}
		for n := range 6 {
			for count := 1; count < 5; count++ {
				for at := range count {
					in := slices.Repeat([][]bool{slices.Repeat([]bool{true}, inputs)}, count)
					in[at] = slices.Repeat([]bool{true}, n)
					r, e := sim.Run(a, bits("0"), in)
					if n == inputs && (len(r) != count+1 || e != api.OK) || n != inputs && (r != nil || e != api.ErrShape) {
						t.Errorf("row %d of %d with %d of %d: %v, %d", at, count, n, inputs, r, e)
					}
				}
			}
		}
	}
	for _, in := range [][][]bool{{nil}, {nil, bits("1")}, {bits("1"), nil, bits("1")}, {bits("1"), nil}, {bits("1"), bits("11"), bits("1")}} {
		if r, e := sim.Run(api.Aig{I: 1}, nil, in); r != nil || e != api.ErrShape {
			t.Errorf("%v: %v, %d", in, r, e)
		}
	}
	// A row that tells nothing of no inputs may be nil.
	if r, e := sim.Run(api.Aig{L: make([]api.Latch, 1)}, bits("1"), [][]bool{nil, {}}); texts(r) != "0 0 0" || e != api.OK {
		t.Errorf("%v, %d", r, e)
	}
}

// someModel is a right model without names, by chance.
func someModel(r *rand.Rand) api.Aig {
	size := []int{2, 5, 30}[r.Intn(3)]
	a := api.Aig{I: r.Intn(size), L: make([]api.Latch, r.Intn(size)), G: make([]api.And, r.Intn(size))}
	literals := 2 * (aig.Vars(a) + 1)
	for i := range a.L {
		a.L[i] = api.Latch{Next: r.Intn(literals), Reset: []int{0, 1, 2 * (a.I + 1 + i)}[r.Intn(3)]}
	}
	for i := range a.G {
		x := r.Intn(2 * (a.I + len(a.L) + 1 + i))
		a.G[i] = api.And{A: x, B: r.Intn(x + 1)}
	}
	for _, row := range []*[]int{&a.Outs, &a.Bad, &a.Con} {
		for range r.Intn(size) {
			*row = append(*row, r.Intn(literals))
		}
	}
	return a
}

func someRow(r *rand.Rand, n int) []bool {
	row := make([]bool, n)
	for i := range row {
		row[i] = r.Intn(2) == 0
	}
	return row
}

// allFree is a model that begins with whatever free says.
func allFree(a api.Aig) api.Aig {
	a.L = slices.Clone(a.L)
	for i := range a.L {
		a.L[i].Reset = 2 * (a.I + 1 + i)
	}
	return a
}

// P8.1 to P8.4: of models by chance: each step is the chapter's, a run is its steps, and one of two rows of rows is the run of the first one, and then that of the other.
func TestRunIsItsSteps(t *testing.T) {
	r := rand.New(rand.NewSource(84))
	for range 1500 {
		a := someModel(r)
		free := someRow(r, len(a.L))
		var in [][]bool
		for range r.Intn(8) {
			in = append(in, someRow(r, a.I))
		}
		run, e := sim.Run(a, free, in)
		state, e2 := sim.Start(a, free)
		if e != api.OK || e2 != api.OK || len(run) != len(in)+1 || !slices.Equal(run[0], state) {
			t.Fatalf("%v, %v, %v: %v, %d, %d", a, free, in, run, e, e2)
		}
		for i, l := range a.L {
			if want := l.Reset == 1 || l.Reset > 1 && free[i]; state[i] != want {
				t.Fatalf("%v, %v: %v", a.L, free, state)
			}
		}
		for i, row := range in {
			checkStep(t, a, state, row)
			state, _, _ = sim.Step(a, state, row)
			if !slices.Equal(run[i+1], state) {
				t.Fatalf("%v, %v, %v: %v: behind row %d not %v", a, free, in, run, i, state)
			}
		}
		for cut := range len(in) + 1 {
			first, _ := sim.Run(a, free, in[:cut])
			then, e := sim.Run(allFree(a), first[cut], in[cut:])
			if both := append(first, then[1:]...); texts(both) != texts(run) || e != api.OK {
				t.Fatalf("%v, %v, %v, cut at %d: %v, not %v", a, free, in, cut, both, run)
			}
		}
	}
}

// roomy is a row with memory behind its end, which none may write into.
func roomy(row []bool) []bool { return append(slices.Clone(row), true, false, true, false)[:len(row)] }

// isRoomy: is what lies behind the end as it was?
func isRoomy(row []bool) bool { return text(row[len(row):len(row)+4]) == "1010" }

// R3, P8.4: nothing that is handed in is changed, and nothing changes with what came out, or that with it.
func TestAllStandAlone(t *testing.T) {
	a := whole()
	a.L[1].Reset = 8
	free, state, in := roomy(bits("011")), roomy(bits("101")), roomy(bits("10"))
	many := [][]bool{in, roomy(bits("01")), in}
	var kept, again [][]bool
	ask := func() [][]bool {
		v, _ := sim.Values(a, state, in)
		n, out, _ := sim.Step(a, state, in)
		first, _ := sim.Start(a, free)
		run, _ := sim.Run(a, free, many)
		return append([][]bool{v, n, out[0], out[1], out[2], first}, run...)
	}
	kept = ask()
	want := texts(kept)
	for i, row := range kept {
		for at := range row {
			row[at] = !row[at]
		}
		again = ask()
		if got := texts(again); got != want {
			t.Errorf("with list %d turned: %s, not %s", i, got, want)
		}
		for at := range row {
			row[at] = !row[at]
		}
		if got := texts(kept); got != want {
			t.Errorf("with list %d another is turned: %s, not %s", i, got, want)
		}
		_ = append(row, true, true, true, true)
		if got := texts(kept); got != want {
			t.Errorf("with more behind list %d another is changed: %s, not %s", i, got, want)
		}
	}
	if s, _ := aig.Print(a); text(free) != "011" || text(state) != "101" || texts(many) != "10 01 10" || s != printed(t, func(a *api.Aig) { a.L[1].Reset = 8 }) {
		t.Error("what was handed in is changed")
	}
	if !isRoomy(free) || !isRoomy(state) || !isRoomy(in) || !isRoomy(many[1]) {
		t.Error("what lies behind an end is changed")
	}
	for _, row := range [][]bool{free, state, in, many[1]} {
		clear(row)
	}
	clear(a.L)
	clear(a.G)
	clear(many)
	if got := texts(kept); got != want {
		t.Errorf("with what was handed in what came out is changed: %s, not %s", got, want)
	}
}

// printed is the whole model's text, changed.
func printed(t *testing.T, change func(a *api.Aig)) string {
	t.Helper()
	a := whole()
	change(&a)
	s, e := aig.Print(a)
	if e != api.OK {
		t.Fatal(e)
	}
	return s
}

// Of models that aren't right nothing is promised but that each call ends.
func TestWrongModelsEnd(t *testing.T) {
	some := []int{-1, 0, 1, 2, 3, 8, 9, math.MinInt, math.MaxInt}
	for _, x := range some {
		for _, y := range some {
			a := api.Aig{
				I: 1, L: []api.Latch{{Next: x, Reset: y}, {Next: y, Reset: x}}, G: []api.And{{A: x, B: y}, {A: y, B: x}},
				Outs: []int{x, y}, Bad: []int{y}, Con: []int{x},
			}
			if v, e := sim.Values(a, bits("10"), bits("1")); len(v) != 6 || e != api.OK {
				t.Errorf("%d, %d: %v, %d", x, y, v, e)
			}
			if n, out, e := sim.Step(a, bits("10"), bits("1")); len(n) != 2 || len(out[0]) != 2 || len(out[1]) != 1 || len(out[2]) != 1 || e != api.OK {
				t.Errorf("%d, %d: %v, %v, %d", x, y, n, out, e)
			}
			if r, e := sim.Run(a, bits("10"), rows("1", "0")); len(r) != 3 || e != api.OK {
				t.Errorf("%d, %d: %v, %d", x, y, r, e)
			}
		}
		if x < 0 || x > 3 {
			if v, e := sim.Values(api.Aig{I: x, G: make([]api.And, 3)}, nil, nil); v != nil || e != api.ErrShape {
				t.Errorf("%d inputs: %v, %d", x, v, e)
			}
			if r, e := sim.Run(api.Aig{I: x}, nil, rows("")); r != nil || e != api.ErrShape {
				t.Errorf("%d inputs: %v, %d", x, r, e)
			}
		}
	}
}
