package sim_test

import (
	"math"
	"slices"
	"strings"
	"testing"

	"vidimus/aig"
	"vidimus/api"
	"vidimus/sim"
)

// bits are a row by its text; of an empty text there is no list.
func bits(s string) []bool {
	var row []bool
	for i := range len(s) {
		row = append(row, s[i] == '1')
	}
	return row
}

// text is a row's.
func text(row []bool) string {
	var out strings.Builder
	for _, x := range row {
		out.WriteByte("01"[number(x)])
	}
	return out.String()
}

func number(x bool) int {
	if x {
		return 1
	}
	return 0
}

// texts are rows', with a blank between.
func texts(rows [][]bool) string {
	var out []string
	for _, row := range rows {
		out = append(out, text(row))
	}
	return strings.Join(out, " ")
}

// rows are those by their texts.
func rows(s ...string) [][]bool {
	var out [][]bool
	for _, x := range s {
		out = append(out, bits(x))
	}
	return out
}

// allRows are all of a length.
func allRows(n int) [][]bool {
	if n == 0 {
		return [][]bool{nil}
	}
	var out [][]bool
	for _, row := range allRows(n - 1) {
		out = append(out, append(slices.Clone(row), false), append(slices.Clone(row), true))
	}
	return out
}

// isTrue is a literal's truth by the chapter's words, asked backwards from it.
func isTrue(a api.Aig, state, in []bool, literal int) bool {
	if literal%2 == 1 {
		return !isTrue(a, state, in, literal-1)
	}
	at := literal/2 - 1
	switch {
	case at < 0:
		return false
	case at < a.I:
		return in[at]
	case at < a.I+len(a.L):
		return state[at-a.I]
	}
	g := a.G[at-a.I-len(a.L)]
	return isTrue(a, state, in, g.A) && isTrue(a, state, in, g.B)
}

// checkStep holds what Values, Lit and Step tell, literal by literal.
func checkStep(t *testing.T, a api.Aig, state, in []bool) {
	t.Helper()
	v, e := sim.Values(a, state, in)
	if e != api.OK || len(v) != aig.Vars(a)+1 {
		t.Fatalf("%v, %v, %v: %v, %d", a, state, in, v, e)
	}
	for literal := range 2 * len(v) {
		want := isTrue(a, state, in, literal)
		if sim.Lit(v, literal) != want {
			t.Fatalf("%v, %s, %s: literal %d of %s is not %v", a, text(state), text(in), literal, text(v), want)
		}
		// P8.4: never alike.
		if sim.Lit(v, literal^1) == want {
			t.Fatalf("%s: %d and its other one are alike", text(v), literal)
		}
		if literal%2 == 0 && v[literal/2] != want {
			t.Fatalf("%v, %s, %s: variable %d of %s is not %v", a, text(state), text(in), literal/2, text(v), want)
		}
	}
	of := func(literals []int) string {
		var row []bool
		for _, x := range literals {
			row = append(row, isTrue(a, state, in, x))
		}
		return text(row)
	}
	var nexts []int
	for _, l := range a.L {
		nexts = append(nexts, l.Next)
	}
	n, out, e := sim.Step(a, state, in)
	if text(n) != of(nexts) || text(out[0]) != of(a.Outs) || text(out[1]) != of(a.Bad) || text(out[2]) != of(a.Con) || e != api.OK {
		t.Fatalf("%v, %s, %s: %v, %v, %d", a, text(state), text(in), n, out, e)
	}
}

// P8.1: the values of variables, with each edge.
func TestValues(t *testing.T) {
	latches := func(n int) []api.Latch { return make([]api.Latch, n) }
	gates := func(g ...api.And) []api.And { return g }
	for _, x := range []struct {
		name            string
		a               api.Aig
		state, in, want string
	}{
		{"nothing in it", api.Aig{}, "", "", "0"},
		{"an input", api.Aig{I: 1}, "", "1", "01"}, {"an input", api.Aig{I: 1}, "", "0", "00"},
		{"inputs in order", api.Aig{I: 4}, "", "1101", "01101"},
		{"a latch", api.Aig{L: latches(1)}, "1", "", "01"}, {"a latch", api.Aig{L: latches(1)}, "0", "", "00"},
		{"latches in order", api.Aig{L: latches(4)}, "0100", "", "00100"},
		{"latches behind inputs", api.Aig{I: 2, L: latches(3)}, "001", "10", "010001"},
		{"a latch isn't what it is at first or next", api.Aig{L: []api.Latch{{Next: 1, Reset: 1}}}, "0", "", "00"},
		{"two inputs", api.Aig{I: 2, G: gates(api.And{A: 4, B: 2})}, "", "11", "0111"},
		{"two inputs", api.Aig{I: 2, G: gates(api.And{A: 4, B: 2})}, "", "10", "0100"},
		{"two inputs", api.Aig{I: 2, G: gates(api.And{A: 4, B: 2})}, "", "01", "0010"},
		{"two inputs", api.Aig{I: 2, G: gates(api.And{A: 4, B: 2})}, "", "00", "0000"},
		{"the second turned", api.Aig{I: 2, G: gates(api.And{A: 5, B: 2})}, "", "10", "0101"},
		{"the first turned", api.Aig{I: 2, G: gates(api.And{A: 4, B: 3})}, "", "01", "0011"},
		{"both turned", api.Aig{I: 2, G: gates(api.And{A: 5, B: 3})}, "", "00", "0001"},
		{"both turned", api.Aig{I: 2, G: gates(api.And{A: 5, B: 3})}, "", "01", "0010"},
		{"an input and a latch", api.Aig{I: 1, L: latches(1), G: gates(api.And{A: 4, B: 3})}, "1", "0", "0011"},
		{"literal 0 twice", api.Aig{G: gates(api.And{})}, "", "", "00"},
		{"literal 1 and 0", api.Aig{G: gates(api.And{A: 1})}, "", "", "00"},
		{"literal 1 twice", api.Aig{G: gates(api.And{A: 1, B: 1})}, "", "", "01"},
		{"an input and 0", api.Aig{I: 1, G: gates(api.And{A: 2, B: 0})}, "", "1", "010"},
		{"an input and 1", api.Aig{I: 1, G: gates(api.And{A: 2, B: 1})}, "", "1", "011"},
		{"an input and 1", api.Aig{I: 1, G: gates(api.And{A: 2, B: 1})}, "", "0", "000"},
		{"a literal twice", api.Aig{I: 1, G: gates(api.And{A: 2, B: 2}, api.And{A: 3, B: 3})}, "", "1", "0110"},
		{"a literal twice", api.Aig{I: 1, G: gates(api.And{A: 2, B: 2}, api.And{A: 3, B: 3})}, "", "0", "0001"},
		{"a literal and its other one", api.Aig{I: 1, G: gates(api.And{A: 3, B: 2})}, "", "1", "010"},
		{"a literal and its other one", api.Aig{I: 1, G: gates(api.And{A: 3, B: 2})}, "", "0", "000"},
		{"a gate and its other one", api.Aig{I: 1, G: gates(api.And{A: 2, B: 1}, api.And{A: 5, B: 4})}, "", "1", "0110"},
		{"a gate of a gate", api.Aig{I: 1, G: gates(api.And{A: 2, B: 1}, api.And{A: 4, B: 1}, api.And{A: 7, B: 1})}, "", "0", "00001"},
		{"a gate of a gate", api.Aig{I: 1, G: gates(api.And{A: 2, B: 1}, api.And{A: 4, B: 1}, api.And{A: 7, B: 1})}, "", "1", "01110"},
		{"a gate of two gates", api.Aig{I: 2, G: gates(api.And{A: 4, B: 2}, api.And{A: 5, B: 3}, api.And{A: 9, B: 7})}, "", "10", "010001"},
		{"a gate of two gates", api.Aig{I: 2, G: gates(api.And{A: 4, B: 2}, api.And{A: 5, B: 3}, api.And{A: 9, B: 7})}, "", "11", "011100"},
	} {
		v, e := sim.Values(x.a, bits(x.state), bits(x.in))
		if text(v) != x.want || e != api.OK {
			t.Errorf("%s: of %q, %q: %s, %d; not %s", x.name, x.state, x.in, text(v), e, x.want)
		}
		checkStep(t, x.a, bits(x.state), bits(x.in))
	}
}

// P8.1, P8.2: all models of an input, a latch and up to two gates, with all values.
func TestAllSmallModels(t *testing.T) {
	a := api.Aig{I: 1, L: make([]api.Latch, 1)}
	var checkAll func(a api.Aig, more int)
	checkAll = func(a api.Aig, more int) {
		last := 2*aig.Vars(a) + 1
		a.L = []api.Latch{{Next: last}}
		a.Outs, a.Bad, a.Con = []int{last - 1, 0}, []int{last}, []int{1, last - 1}
		for _, in := range allRows(1) {
			for _, state := range allRows(1) {
				checkStep(t, a, state, in)
			}
		}
		if more == 0 {
			return
		}
		for x := range last + 1 {
			for y := range x + 1 {
				b := a
				b.G = append(slices.Clone(a.G), api.And{A: x, B: y})
				checkAll(b, more-1)
			}
		}
	}
	checkAll(a, 2)
}

// P8.1: as many gates as there may be, each of the one ahead, and as many inputs and latches.
func TestMaxVar(t *testing.T) {
	chain := api.Aig{I: 1, Outs: []int{2*api.MaxVar + 1}}
	for i := range api.MaxVar - 1 {
		chain.G = append(chain.G, api.And{A: 2 * (i + 1), B: 1})
	}
	for _, x := range []bool{false, true} {
		v, e := sim.Values(chain, nil, []bool{x})
		want := slices.Repeat([]bool{x}, api.MaxVar+1)
		want[0] = false
		if !slices.Equal(v, want) || e != api.OK || sim.Lit(v, 2*api.MaxVar) != x || sim.Lit(v, 2*api.MaxVar+1) == x {
			t.Errorf("a chain of %v: %d, %d", x, len(v), e)
		}
		if _, out, e := sim.Step(chain, nil, []bool{x}); text(out[0]) != text([]bool{!x}) || e != api.OK {
			t.Errorf("a chain of %v: %v, %d", x, out, e)
		}
	}
	wide := api.Aig{I: api.MaxVar / 2, L: make([]api.Latch, api.MaxVar/2)}
	for i := range wide.L {
		wide.L[i].Next = 2 + 2*i
	}
	in, state := make([]bool, wide.I), make([]bool, len(wide.L))
	for i := range in {
		in[i], state[i] = i%3 == 0, i%5 == 0
	}
	if r, e := sim.Run(wide, state, [][]bool{in, state}); len(r) != 3 || !slices.Equal(r[1], in) || !slices.Equal(r[2], state) || slices.Contains(r[0], true) || e != api.OK {
		t.Errorf("%d rows, %d", len(r), e)
	}
	checkStep(t, wide, state, in)
}

// P8.1: a literal, of such values; what isn't one of theirs isn't true.
func TestLit(t *testing.T) {
	for _, x := range []struct {
		v  string
		l  int
		is bool
	}{
		{"0", 0, false}, {"0", 1, true}, {"0", 2, false}, {"0", 3, false}, {"0", -1, false}, {"0", -2, false},
		{"011", 0, false}, {"011", 1, true}, {"011", 4, true}, {"011", 5, false}, {"011", 6, false}, {"011", 7, false},
		{"010", 2, true}, {"010", 3, false}, {"010", 4, false}, {"010", 5, true}, {"010", 6, false}, {"010", 7, false}, {"010", 8, false},
		{"011", -1, false}, {"011", -2, false}, {"011", -3, false}, {"011", -4, false}, {"000", -1, false}, {"000", -3, false},
		{"011", math.MaxInt, false}, {"011", math.MaxInt - 1, false}, {"011", math.MinInt, false}, {"011", math.MinInt + 1, false}, {"011", math.MinInt + 4, false},
		// Not even where variable 0 is what it never is.
		{"1", -1, false}, {"11", -2, false},
		{"", 0, false}, {"", 1, false}, {"", 2, false}, {"", -1, false}, {"", math.MaxInt, false}, {"", math.MinInt, false},
	} {
		if is := sim.Lit(bits(x.v), x.l); is != x.is {
			t.Errorf("literal %d of %q: %v", x.l, x.v, is)
		}
	}
	if sim.Lit([]bool{}, 0) || sim.Lit([]bool{}, 1) {
		t.Error("of no values")
	}
	// What lies behind a list's end isn't one of its values.
	if v := bits("0111"); sim.Lit(v[:2], 4) || sim.Lit(v[:2], 5) || !sim.Lit(v[:2], 2) {
		t.Error("behind the end")
	}
}

// P8.4: a literal of values and its other one are never alike.
func TestNeverAlike(t *testing.T) {
	for n := range 6 {
		for _, rest := range allRows(n) {
			v := append([]bool{false}, rest...)
			for at := range v {
				if sim.Lit(v, 2*at) == sim.Lit(v, 2*at+1) || sim.Lit(v, 2*at) != v[at] {
					t.Errorf("variable %d of %s", at, text(v))
				}
			}
		}
	}
}

// whole is a model with something of each kind: two inputs, three latches, two gates.
func whole() api.Aig {
	return api.Aig{
		I: 2, L: []api.Latch{{Next: 15, Reset: 0}, {Next: 6, Reset: 1}, {Next: 2, Reset: 10}},
		G:    []api.And{{A: 4, B: 2}, {A: 13, B: 10}},
		Outs: []int{0, 14, 3, 14}, Bad: []int{12, 12, 1}, Con: []int{5, 11, 6, 5, 5},
		Names: []api.Name{{Kind: 'i', At: 0, S: "x"}, {Kind: 'b', At: 1, S: "y"}},
	}
}

// P8.2: the next state and the three rows, each in order, a literal as often as it is there.
func TestStep(t *testing.T) {
	if !aig.Right(whole()) {
		t.Fatal("not right")
	}
	for _, x := range []struct{ state, in, next, outs, bad, con string }{
		{"000", "00", "100", "0010", "001", "11011"},
		{"000", "11", "101", "0000", "111", "01000"},
		{"001", "10", "001", "0101", "001", "10011"},
		{"001", "11", "101", "0000", "111", "00000"},
		{"110", "01", "110", "0010", "001", "01100"},
		{"111", "00", "010", "0111", "001", "10111"},
		{"111", "11", "111", "0000", "111", "00100"},
		{"010", "10", "101", "0000", "001", "11011"},
	} {
		n, out, e := sim.Step(whole(), bits(x.state), bits(x.in))
		if text(n) != x.next || text(out[0]) != x.outs || text(out[1]) != x.bad || text(out[2]) != x.con || e != api.OK {
			t.Errorf("of %s, %s: %s, %s, %d", x.state, x.in, text(n), texts(out[:]), e)
		}
	}
	for _, state := range allRows(3) {
		for _, in := range allRows(2) {
			checkStep(t, whole(), state, in)
		}
	}
	if n, out, e := sim.Step(api.Aig{}, nil, nil); len(n) != 0 || texts(out[:]) != "  " || e != api.OK {
		t.Errorf("of nothing: %v, %v, %d", n, out, e)
	}
	only := api.Aig{Outs: []int{1, 0}, Bad: []int{0}, Con: []int{1, 1, 1}}
	if n, out, e := sim.Step(only, []bool{}, []bool{}); len(n) != 0 || texts(out[:]) != "10 0 111" || e != api.OK {
		t.Errorf("of constants: %v, %v, %d", n, out, e)
	}
	if _, out, e := sim.Step(api.Aig{I: 1, Con: []int{3, 2}}, nil, bits("1")); texts(out[:]) != "  01" || e != api.OK {
		t.Errorf("constraints alone: %v, %d", out, e)
	}
}

// P8.1, P8.2: what hasn't the model's shape, each way, tells ErrShape, and nothing.
func TestShape(t *testing.T) {
	for latches := range 4 {
		for inputs := range 4 {
			a := api.Aig{I: inputs, L: make([]api.Latch, latches), Outs: []int{1}, Bad: []int{1}, Con: []int{1}}
			for state := range 6 {
				for in := range 6 {
					fits := state == latches && in == inputs
					v, e := sim.Values(a, slices.Repeat([]bool{true}, state), slices.Repeat([]bool{true}, in))
					n, out, e2 := sim.Step(a, slices.Repeat([]bool{true}, state), slices.Repeat([]bool{true}, in))
					if fits {
						if len(v) != 1+inputs+latches || e != api.OK || len(n) != latches || texts(out[:]) != "1 1 1" || e2 != api.OK {
							t.Errorf("%d, %d: %v, %d; %v, %v, %d", latches, inputs, v, e, n, out, e2)
						}
					} else if v != nil || e != api.ErrShape || n != nil || out[0] != nil || out[1] != nil || out[2] != nil || e2 != api.ErrShape {
						t.Errorf("%d, %d: of %d, %d: %v, %d; %v, %v, %d", latches, inputs, state, in, v, e, n, out, e2)
					}
				}
			}
		}
	}
	// No list is one without elements.
	a := api.Aig{I: 1, L: make([]api.Latch, 1)}
	for _, x := range []struct{ state, in []bool }{{nil, bits("1")}, {bits("1"), nil}, {nil, nil}, {nil, bits("11")}, {bits("11"), nil}} {
		if v, e := sim.Values(a, x.state, x.in); v != nil || e != api.ErrShape {
			t.Errorf("%v, %v: %v, %d", x.state, x.in, v, e)
		}
		if n, out, e := sim.Step(a, x.state, x.in); n != nil || out[0] != nil || e != api.ErrShape {
			t.Errorf("%v, %v: %v, %v, %d", x.state, x.in, n, out, e)
		}
	}
	if v, e := sim.Values(api.Aig{}, []bool{}, []bool{}); text(v) != "0" || e != api.OK {
		t.Errorf("%v, %d", v, e)
	}
}
