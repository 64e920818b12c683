package tern_test

import (
	"math"
	"slices"
	"testing"

	"vidimus/aig"
	"vidimus/api"
	"vidimus/tern"
)

// may is what a value may be: false, true, or both.
type may [2]bool

// mays are what variables may be, each for itself: a gate may be true, if both its inputs may; and false, if one may.
func mays(a api.Aig, state, in []api.Tri) []may {
	out := []may{{true, false}}
	for _, x := range slices.Concat(in, state) {
		out = append(out, may{x != 1, x != 0})
	}
	for _, g := range a.G {
		x, y := mayOf(out, g.A), mayOf(out, g.B)
		out = append(out, may{x[0] || y[0], x[1] && y[1]})
	}
	return out
}

// mayOf is what a literal may be.
func mayOf(v []may, literal int) may {
	if x := v[literal/2]; literal%2 == 1 {
		return may{x[1], x[0]}
	}
	return v[literal/2]
}

// textOf is the text of literals that may be so.
func textOf(v []may, literals []int) string {
	var out []api.Tri
	for _, l := range literals {
		switch mayOf(v, l) {
		case may{true, false}:
			out = append(out, 0)
		case may{false, true}:
			out = append(out, 1)
		case may{true, true}:
			out = append(out, api.X)
		default:
			panic("it may be nothing")
		}
	}
	return text(out)
}

// nexts are latches' literals next.
func nexts(a api.Aig) []int {
	var out []int
	for _, l := range a.L {
		out = append(out, l.Next)
	}
	return out
}

// checkStep holds what Values, Lit and Step tell, literal by literal.
func checkStep(t *testing.T, a api.Aig, state, in []api.Tri) {
	t.Helper()
	want := mays(a, state, in)
	v, e := tern.Values(a, state, in)
	if e != api.OK || len(v) != aig.Vars(a)+1 {
		t.Fatalf("%v, %s, %s: %s, %d", a, text(state), text(in), text(v), e)
	}
	for literal := range 2 * len(v) {
		x := tern.Lit(v, literal)
		if text([]api.Tri{x}) != textOf(want, []int{literal}) || literal%2 == 0 && v[literal/2] != x {
			t.Fatalf("%v, %s, %s: literal %d of %s is %d", a, text(state), text(in), literal, text(v), x)
		}
	}
	n, out, e := tern.Step(a, state, in)
	if text(n) != textOf(want, nexts(a)) || text(out[0]) != textOf(want, a.Outs) || text(out[1]) != textOf(want, a.Bad) || text(out[2]) != textOf(want, a.Con) || e != api.OK {
		t.Fatalf("%v, %s, %s: %s, %s, %d", a, text(state), text(in), text(n), texts(out[:]...), e)
	}
}

// P9.2: the values of variables, with each edge.
func TestValues(t *testing.T) {
	latches := func(n int) []api.Latch { return make([]api.Latch, n) }
	gates := func(g ...api.And) []api.And { return g }
	both := api.Aig{I: 2, G: gates(api.And{A: 4, B: 2})}
	turned := api.Aig{I: 2, G: gates(api.And{A: 5, B: 3})}
	other := api.Aig{I: 1, G: gates(api.And{A: 3, B: 2})}
	row3 := api.Aig{I: 2, G: gates(api.And{A: 4, B: 2}, api.And{A: 5, B: 3}, api.And{A: 9, B: 7})}
	for _, x := range []struct {
		name            string
		a               api.Aig
		state, in, want string
	}{
		{"nothing in it", api.Aig{}, "", "", "0"},
		{"an input", api.Aig{I: 1}, "", "1", "01"}, {"an input", api.Aig{I: 1}, "", "0", "00"}, {"an input", api.Aig{I: 1}, "", "x", "0x"},
		{"inputs in order", api.Aig{I: 5}, "", "11x01", "011x01"},
		{"a latch", api.Aig{L: latches(1)}, "1", "", "01"}, {"a latch", api.Aig{L: latches(1)}, "0", "", "00"}, {"a latch", api.Aig{L: latches(1)}, "x", "", "0x"},
		{"latches in order", api.Aig{L: latches(4)}, "01x0", "", "001x0"},
		{"latches behind inputs", api.Aig{I: 2, L: latches(3)}, "00x", "1x", "01x00x"},
		{"a latch isn't what it is at first or next", api.Aig{L: []api.Latch{{Next: 1, Reset: 1}}}, "x", "", "0x"},
		{"a latch that is free at first", api.Aig{L: []api.Latch{{Next: 1, Reset: 2}}}, "0", "", "00"},
		{"two inputs", both, "", "11", "0111"}, {"two inputs", both, "", "10", "0100"}, {"two inputs", both, "", "0x", "00x0"},
		{"two inputs", both, "", "x0", "0x00"}, {"two inputs", both, "", "1x", "01xx"}, {"two inputs", both, "", "x1", "0x1x"}, {"two inputs", both, "", "xx", "0xxx"},
		{"both turned", turned, "", "00", "0001"}, {"both turned", turned, "", "x1", "0x10"}, {"both turned", turned, "", "x0", "0x0x"}, {"both turned", turned, "", "0x", "00xx"}, {"both turned", turned, "", "1x", "01x0"},
		{"an input and a latch", api.Aig{I: 1, L: latches(1), G: gates(api.And{A: 4, B: 3})}, "x", "0", "00xx"},
		{"an input and a latch", api.Aig{I: 1, L: latches(1), G: gates(api.And{A: 4, B: 3})}, "x", "1", "01x0"},
		{"literal 0 twice", api.Aig{G: gates(api.And{})}, "", "", "00"},
		{"literal 1 and 0", api.Aig{G: gates(api.And{A: 1})}, "", "", "00"},
		{"literal 1 twice", api.Aig{G: gates(api.And{A: 1, B: 1})}, "", "", "01"},
		{"an input and 0", api.Aig{I: 1, G: gates(api.And{A: 2, B: 0})}, "", "x", "0x0"},
		{"an input and 1", api.Aig{I: 1, G: gates(api.And{A: 2, B: 1})}, "", "x", "0xx"},
		{"a literal twice", api.Aig{I: 1, G: gates(api.And{A: 2, B: 2}, api.And{A: 3, B: 3})}, "", "x", "0xxx"},
		// With three values it isn't seen that one of the two is false.
		{"a literal and its other one", other, "", "x", "0xx"}, {"a literal and its other one", other, "", "0", "000"}, {"a literal and its other one", other, "", "1", "010"},
		{"a gate and its other one", api.Aig{I: 1, G: gates(api.And{A: 2, B: 1}, api.And{A: 5, B: 4})}, "", "x", "0xxx"},
		{"a gate of a gate", api.Aig{I: 1, G: gates(api.And{A: 2, B: 1}, api.And{A: 4, B: 1}, api.And{A: 7, B: 1})}, "", "x", "0xxxx"},
		{"a gate of two gates", row3, "", "x0", "0x00xx"}, {"a gate of two gates", row3, "", "x1", "0x1x0x"}, {"a gate of two gates", row3, "", "10", "010001"},
	} {
		v, e := tern.Values(x.a, row(x.state), row(x.in))
		if text(v) != x.want || e != api.OK {
			t.Errorf("%s: of %q, %q: %s, %d; not %s", x.name, x.state, x.in, text(v), e, x.want)
		}
		checkStep(t, x.a, row(x.state), row(x.in))
	}
}

// P9.2: a literal, of such values; X, if it isn't one of theirs.
func TestLit(t *testing.T) {
	for _, x := range []struct {
		v    string
		l    int
		want api.Tri
	}{
		{"0", 0, 0}, {"0", 1, 1}, {"0", 2, 2}, {"0", 3, 2}, {"0", -1, 2}, {"0", -2, 2},
		{"01x", 0, 0}, {"01x", 1, 1}, {"01x", 2, 1}, {"01x", 3, 0}, {"01x", 4, 2}, {"01x", 5, 2}, {"01x", 6, 2}, {"01x", 7, 2},
		{"0x1", 2, 2}, {"0x1", 3, 2}, {"0x1", 4, 1}, {"0x1", 5, 0}, {"0x1", 6, 2}, {"0x1", 7, 2}, {"0x1", 8, 2},
		{"000", 4, 0}, {"000", 5, 1}, {"000", 6, 2}, {"000", 7, 2}, {"000", -1, 2}, {"000", -2, 2}, {"000", -3, 2}, {"000", -4, 2}, {"000", -5, 2},
		{"011", math.MaxInt, 2}, {"011", math.MaxInt - 1, 2}, {"011", math.MinInt, 2}, {"011", math.MinInt + 1, 2}, {"011", math.MinInt + 4, 2},
		{"", 0, 2}, {"", 1, 2}, {"", 2, 2}, {"", 3, 2}, {"", -1, 2}, {"", math.MaxInt, 2}, {"", math.MinInt, 2},
	} {
		if got := tern.Lit(row(x.v), x.l); got != x.want {
			t.Errorf("literal %d of %q: %d", x.l, x.v, got)
		}
	}
	if tern.Lit([]api.Tri{}, 0) != api.X || tern.Lit([]api.Tri{}, 1) != api.X {
		t.Error("of no values")
	}
	// What lies behind a list's end isn't one of its values.
	if v := row("0110"); tern.Lit(v[:2], 4) != api.X || tern.Lit(v[:2], 5) != api.X || tern.Lit(v[:2], 2) != 1 {
		t.Error("behind the end")
	}
	for _, rest := range allRows(4) {
		v := append([]api.Tri{0}, rest...)
		for at, x := range v {
			if tern.Lit(v, 2*at) != x || tern.Lit(v, 2*at+1) != tern.Not(x) {
				t.Errorf("variable %d of %s", at, text(v))
			}
		}
	}
}

// whole is a model with something of each kind: two inputs, three latches, two gates.
func whole() api.Aig {
	return api.Aig{
		I: 2, L: []api.Latch{{Next: 15, Reset: 0}, {Next: 6, Reset: 1}, {Next: 2, Reset: 10}},
		G:    []api.And{{A: 4, B: 2}, {A: 13, B: 10}},
		Outs: []int{0, 14, 3, 14}, Bad: []int{12, 12, 1}, Con: []int{5, 11, 6, 5, 5},
		Names: []api.Name{{Kind: 'i', At: 0, S: "x"}, {Kind: 'b', At: 1, S: "y"}},
	}
}

// P9.2: the next state and the three rows, each in order, a literal as often as it is there.
func TestStep(t *testing.T) {
	if !aig.Right(whole()) {
		t.Fatal("not right")
	}
	for _, x := range []struct{ state, in, next, outs, bad, con string }{
		{"000", "00", "100", "0010", "001", "11011"},
		{"001", "10", "001", "0101", "001", "10011"},
		{"111", "11", "111", "0000", "111", "00100"},
		{"x00", "00", "1x0", "0010", "001", "11x11"},
		{"001", "1x", "x01", "0x0x", "xx1", "x00xx"},
		{"01x", "0x", "x00", "0x1x", "001", "xx0xx"},
		{"10x", "11", "111", "0000", "111", "0x100"},
		{"000", "x1", "10x", "00x0", "xx1", "01000"},
		{"xxx", "xx", "xxx", "0xxx", "xx1", "xxxxx"},
	} {
		n, out, e := tern.Step(whole(), row(x.state), row(x.in))
		if text(n) != x.next || text(out[0]) != x.outs || text(out[1]) != x.bad || text(out[2]) != x.con || e != api.OK {
			t.Errorf("of %s, %s: %s, %s, %d", x.state, x.in, text(n), texts(out[:]...), e)
		}
	}
	for _, state := range allRows(3) {
		for _, in := range allRows(2) {
			checkStep(t, whole(), state, in)
		}
	}
	if n, out, e := tern.Step(api.Aig{}, nil, nil); len(n) != 0 || texts(out[:]...) != "  " || e != api.OK {
		t.Errorf("of nothing: %v, %v, %d", n, out, e)
	}
	only := api.Aig{Outs: []int{1, 0}, Bad: []int{0}, Con: []int{1, 1, 1}}
	if n, out, e := tern.Step(only, []api.Tri{}, []api.Tri{}); len(n) != 0 || texts(out[:]...) != "10 0 111" || e != api.OK {
		t.Errorf("of constants: %v, %v, %d", n, out, e)
	}
	if _, out, e := tern.Step(api.Aig{I: 2, Con: []int{3, 2, 5}}, nil, row("1x")); texts(out[:]...) != "  01x" || e != api.OK {
		t.Errorf("constraints alone: %v, %d", out, e)
	}
}

// checkShape holds that both Values and Step tell ErrShape, and nothing.
func checkShape(t *testing.T, a api.Aig, state, in []api.Tri) {
	t.Helper()
	if v, e := tern.Values(a, state, in); v != nil || e != api.ErrShape {
		t.Errorf("%v, %v, %v: %v, %d", a, state, in, v, e)
	}
	if n, out, e := tern.Step(a, state, in); n != nil || out[0] != nil || out[1] != nil || out[2] != nil || e != api.ErrShape {
		t.Errorf("%v, %v, %v: %v, %v, %d", a, state, in, n, out, e)
	}
}

// shaped is a model of so many inputs and latches that has something to tell.
func shaped(inputs, latches int) api.Aig {
	return api.Aig{I: inputs, L: make([]api.Latch, latches), G: []api.And{{A: 1, B: 1}}, Outs: []int{1}, Bad: []int{1}, Con: []int{1}}
}

// P9.2: of rows of another length, each way, ErrShape, and nothing.
func TestShape(t *testing.T) {
	for latches := range 4 {
		for inputs := range 4 {
			a := shaped(inputs, latches)
			for n := range 6 {
				for m := range 6 {
					state, in := slices.Repeat([]api.Tri{1}, n), slices.Repeat([]api.Tri{api.X}, m)
					if n == latches && m == inputs {
						checkStep(t, a, state, in)
					} else {
						checkShape(t, a, state, in)
					}
				}
			}
		}
	}
	// No list is one without elements.
	a := shaped(1, 1)
	for _, x := range [][2][]api.Tri{{nil, row("1")}, {row("1"), nil}, {nil, nil}, {nil, row("11")}, {row("11"), nil}} {
		checkShape(t, a, x[0], x[1])
	}
	if v, e := tern.Values(api.Aig{}, []api.Tri{}, []api.Tri{}); text(v) != "0" || e != api.OK {
		t.Errorf("%v, %d", v, e)
	}
}

// P9.2: of what is no value, wherever it is, ErrShape, and nothing.
func TestNoValue(t *testing.T) {
	for latches := range 4 {
		for inputs := range 4 {
			a := shaped(inputs, latches)
			for at := range latches + inputs {
				for x := 3; x < 256; x++ {
					both := slices.Repeat([]api.Tri{1}, latches+inputs)
					both[at] = api.Tri(x)
					checkShape(t, a, both[:latches], both[latches:])
				}
			}
		}
	}
	checkShape(t, shaped(1, 1), []api.Tri{3}, []api.Tri{255})
	checkShape(t, shaped(1, 1), []api.Tri{3, 0}, []api.Tri{0})
	// What lies behind a row's end isn't one of its values.
	if v, e := tern.Values(shaped(1, 1), []api.Tri{1, 3}[:1], []api.Tri{0, 255}[:1]); text(v) != "0011" || e != api.OK {
		t.Errorf("%v, %d", v, e)
	}
}

// P9.2: as many gates as there may be, each of the one ahead, and as many inputs and latches.
func TestMaxVar(t *testing.T) {
	chain := api.Aig{I: 1, Outs: []int{2*api.MaxVar + 1}}
	for i := range api.MaxVar - 1 {
		chain.G = append(chain.G, api.And{A: 2 * (i + 1), B: 1})
	}
	for _, x := range all {
		v, e := tern.Values(chain, nil, []api.Tri{x})
		want := slices.Repeat([]api.Tri{x}, api.MaxVar+1)
		want[0] = 0
		if !slices.Equal(v, want) || e != api.OK || tern.Lit(v, 2*api.MaxVar) != x || tern.Lit(v, 2*api.MaxVar+1) != tern.Not(x) || tern.Lit(v, 2*api.MaxVar+2) != api.X {
			t.Errorf("a chain of %d: %d, %d", x, len(v), e)
		}
		if _, out, e := tern.Step(chain, nil, []api.Tri{x}); text(out[0]) != text([]api.Tri{tern.Not(x)}) || e != api.OK {
			t.Errorf("a chain of %d: %v, %d", x, out, e)
		}
	}
	wide := api.Aig{I: api.MaxVar / 2, L: make([]api.Latch, api.MaxVar/2)}
	for i := range wide.L {
		wide.L[i].Next = 2 + 2*i
	}
	in, state := make([]api.Tri, wide.I), make([]api.Tri, len(wide.L))
	for i := range in {
		in[i], state[i] = api.Tri(i%3), api.Tri(i/3%3)
	}
	if n, _, e := tern.Step(wide, state, in); !slices.Equal(n, in) || e != api.OK {
		t.Errorf("%d next, %d", len(n), e)
	}
	checkStep(t, wide, state, in)
}

// Of models that aren't right nothing is promised but that each call ends.
func TestWrongModelsEnd(t *testing.T) {
	some := []int{-1, 0, 1, 2, 3, 8, 9, math.MinInt, math.MaxInt}
	for _, x := range some {
		for _, y := range some {
			a := api.Aig{
				I: 1, L: []api.Latch{{Next: x, Reset: y}, {Next: y, Reset: x}}, G: []api.And{{A: x, B: y}, {A: y, B: x}},
				Outs: []int{x, y}, Bad: []int{y}, Con: []int{x},
			}
			if v, e := tern.Values(a, row("1x"), row("0")); len(v) != 6 || e != api.OK {
				t.Errorf("%d, %d: %v, %d", x, y, v, e)
			}
			if n, out, e := tern.Step(a, row("1x"), row("0")); len(n) != 2 || len(out[0]) != 2 || len(out[1]) != 1 || len(out[2]) != 1 || e != api.OK {
				t.Errorf("%d, %d: %v, %v, %d", x, y, n, out, e)
			}
		}
		if x != 0 {
			checkShape(t, api.Aig{I: x, G: make([]api.And, 3)}, nil, nil)
		}
	}
}
