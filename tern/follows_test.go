package tern_test

import (
	"math/rand"
	"slices"
	"testing"

	"vidimus/aig"
	"vidimus/api"
	"vidimus/sim"
	"vidimus/tern"
)

// bits are a row of two values.
func bits(l []api.Tri) []bool {
	out := make([]bool, len(l))
	for i, x := range l {
		out[i] = x == 1
	}
	return out
}

// tris are bits as values.
func tris(l []bool) []api.Tri {
	out := make([]api.Tri, len(l))
	for i, x := range l {
		if x {
			out[i] = 1
		}
	}
	return out
}

// checkTwo holds that of two values it is what package sim tells.
func checkTwo(t *testing.T, a api.Aig, state, in []api.Tri) {
	t.Helper()
	v, e := tern.Values(a, state, in)
	w, f := sim.Values(a, bits(state), bits(in))
	if !slices.Equal(v, tris(w)) || e != f {
		t.Fatalf("%v, %s, %s: %s, %d; not %v, %d", a, text(state), text(in), text(v), e, w, f)
	}
	for literal := range 2 * len(v) {
		if is := tern.Lit(v, literal); is != tris([]bool{sim.Lit(w, literal)})[0] {
			t.Fatalf("literal %d of %s: %d", literal, text(v), is)
		}
	}
	n, out, e := tern.Step(a, state, in)
	m, told, f := sim.Step(a, bits(state), bits(in))
	if texts(n, out[0], out[1], out[2]) != texts(tris(m), tris(told[0]), tris(told[1]), tris(told[2])) || e != f {
		t.Fatalf("%v, %s, %s: %s, %s, %d; not %v, %v, %d", a, text(state), text(in), text(n), texts(out[:]...), e, m, told, f)
	}
}

// checkBelow holds that of rows below others what comes out is below what comes out of these.
func checkBelow(t *testing.T, a api.Aig, state, in, above, inAbove []api.Tri) {
	t.Helper()
	v, _ := tern.Values(a, state, in)
	w, e := tern.Values(a, above, inAbove)
	if e != api.OK || !tern.Below(v, w) {
		t.Fatalf("%v: %s not below %s", a, text(v), text(w))
	}
	for literal := -2; literal < 2*len(v)+2; literal++ {
		if !tern.Below([]api.Tri{tern.Lit(v, literal)}, []api.Tri{tern.Lit(w, literal)}) {
			t.Fatalf("literal %d of %s not below that of %s", literal, text(v), text(w))
		}
	}
	n, out, _ := tern.Step(a, state, in)
	m, told, e := tern.Step(a, above, inAbove)
	if e != api.OK || !tern.Below(n, m) || !tern.Below(out[0], told[0]) || !tern.Below(out[1], told[1]) || !tern.Below(out[2], told[2]) {
		t.Fatalf("%v: %s, %s not below %s, %s", a, text(n), texts(out[:]...), text(m), texts(told[:]...))
	}
}

// P9.3: Not and And of what is below are below.
func TestBelowOfEach(t *testing.T) {
	for _, x := range allRows(2) {
		for _, y := range allRows(2) {
			if !tern.Below(x, y) {
				continue
			}
			if not := [][]api.Tri{{tern.Not(x[0])}, {tern.Not(y[0])}}; !tern.Below(not[0], not[1]) {
				t.Errorf("Not of %d, and %d: %v", x[0], y[0], not)
			}
			if and := [][]api.Tri{{tern.And(x[0], x[1])}, {tern.And(y[0], y[1])}}; !tern.Below(and[0], and[1]) {
				t.Errorf("And of %s, and %s: %v", text(x), text(y), and)
			}
		}
	}
}

// P9.2, P9.3: all models of an input, a latch and up to two gates, with all values, and all that is below these.
func TestAllSmallModels(t *testing.T) {
	rows := allRows(2)
	var checkAll func(a api.Aig, more int)
	checkAll = func(a api.Aig, more int) {
		last := 2*aig.Vars(a) + 1
		a.L = []api.Latch{{Next: last}}
		a.Outs, a.Bad, a.Con = []int{last - 1, 0}, []int{last}, []int{1, last - 1}
		for _, x := range rows {
			checkStep(t, a, x[:1], x[1:])
			if !slices.Contains(x, api.X) {
				checkTwo(t, a, x[:1], x[1:])
			}
			for _, y := range rows {
				if tern.Below(x, y) {
					checkBelow(t, a, x[:1], x[1:], y[:1], y[1:])
				}
			}
		}
		if more == 0 {
			return
		}
		for x := range last + 1 {
			for y := range x + 1 {
				b := a
				b.G = append(slices.Clone(a.G), api.And{A: x, B: y})
				checkAll(b, more-1)
			}
		}
	}
	checkAll(api.Aig{I: 1, L: make([]api.Latch, 1)}, 2)
}

// someModel is a right model without names, by chance.
func someModel(r *rand.Rand) api.Aig {
	size := []int{2, 5, 30}[r.Intn(3)]
	a := api.Aig{I: r.Intn(size), L: make([]api.Latch, r.Intn(size)), G: make([]api.And, r.Intn(size))}
	literals := 2 * (aig.Vars(a) + 1)
	for i := range a.L {
		a.L[i] = api.Latch{Next: r.Intn(literals), Reset: []int{0, 1, 2 * (a.I + 1 + i)}[r.Intn(3)]}
	}
	for i := range a.G {
		x := r.Intn(2 * (a.I + len(a.L) + 1 + i))
		a.G[i] = api.And{A: x, B: r.Intn(x + 1)}
	}
	for _, l := range []*[]int{&a.Outs, &a.Bad, &a.Con} {
		for range r.Intn(size) {
			*l = append(*l, r.Intn(literals))
		}
	}
	return a
}

// filled is a row whose X, each by chance, is 0, 1, or stays; without stay none does.
func filled(r *rand.Rand, l []api.Tri, stay bool) []api.Tri {
	out := slices.Clone(l)
	for i, x := range l {
		if x == api.X && (!stay || r.Intn(2) == 0) {
			out[i] = api.Tri(r.Intn(2))
		}
	}
	return out
}

// P9.2, P9.3: of models by chance, step by step: what is below stays below, down to two values.
func TestSomeModels(t *testing.T) {
	r := rand.New(rand.NewSource(93))
	for range 1500 {
		a := someModel(r)
		if !aig.Right(a) {
			t.Fatalf("%v isn't right", a)
		}
		above := make([]api.Tri, len(a.L))
		for i := range above {
			above[i] = api.Tri(r.Intn(3))
		}
		state := filled(r, above, true)
		two := filled(r, state, false)
		for range 5 {
			inAbove := make([]api.Tri, a.I)
			for i := range inAbove {
				inAbove[i] = api.Tri(r.Intn(3))
			}
			in := filled(r, inAbove, true)
			inTwo := filled(r, in, false)
			checkStep(t, a, above, inAbove)
			checkTwo(t, a, two, inTwo)
			checkBelow(t, a, state, in, above, inAbove)
			checkBelow(t, a, two, inTwo, state, in)
			above, _, _ = tern.Step(a, above, inAbove)
			state, _, _ = tern.Step(a, state, in)
			two, _, _ = tern.Step(a, two, inTwo)
		}
	}
}

// roomy is a row with memory behind its end, which none may write into.
func roomy(s string) []api.Tri { return append(row(s), 1, 0, 1, 0)[:len(s)] }

// isRoomy: is what lies behind the end as it was?
func isRoomy(l []api.Tri) bool { return text(l[len(l):len(l)+4]) == "1010" }

// R3: nothing that is handed in is changed, and nothing changes with what came out, or that with it.
func TestAllStandAlone(t *testing.T) {
	a, b := whole(), whole()
	state, in := roomy("1x1"), roomy("x0")
	ask := func() [][]api.Tri {
		v, _ := tern.Values(a, state, in)
		n, out, _ := tern.Step(a, state, in)
		tern.Lit(v, 3)
		tern.IsTri(state)
		tern.Below(state, v[:3])
		tern.Text(in)
		return [][]api.Tri{v, n, out[0], out[1], out[2]}
	}
	kept := ask()
	want := texts(kept...)
	for i, l := range kept {
		was := slices.Clone(l)
		clear(l)
		l[0] = 3
		if got := texts(ask()...); got != want {
			t.Errorf("with list %d written into: %s, not %s", i, got, want)
		}
		copy(l, was)
		_ = append(l, 1, 1, 1, 1)
		if got := texts(kept...); got != want {
			t.Errorf("with list %d another is changed: %s, not %s", i, got, want)
		}
	}
	if !aig.Same(a, b) || text(state) != "1x1" || text(in) != "x0" || !isRoomy(state) || !isRoomy(in) {
		t.Error("what was handed in is changed")
	}
	clear(state)
	clear(in)
	clear(a.L)
	clear(a.G)
	clear(a.Outs)
	clear(a.Bad)
	clear(a.Con)
	if got := texts(kept...); got != want {
		t.Errorf("with what was handed in what came out is changed: %s, not %s", got, want)
	}
}
