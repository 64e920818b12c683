package wit_test

import (
	"math/rand"
	"slices"
	"strings"
	"testing"

	"vidimus/aig"
	"vidimus/api"
	"vidimus/tern"
	"vidimus/wit"
)

// someModel is a right model with a bad, by chance.
func someModel(r *rand.Rand) api.Aig {
	size := []int{2, 5, 30}[r.Intn(3)]
	resets := make([]byte, r.Intn(size))
	for i := range resets {
		resets[i] = "01x"[r.Intn(3)]
	}
	return modelOf(r.Intn(size), string(resets), 1+r.Intn(size*size))
}

// someTrace is a right one of a model, by chance.
func someTrace(r *rand.Rand, a api.Aig) api.Trace {
	w := api.Trace{Bad: r.Intn(len(a.Bad)), In: make([][]api.Tri, 1+r.Intn([]int{1, 4, 200}[r.Intn(3)]))}
	for _, l := range a.L {
		x := api.Tri(r.Intn(3))
		if l.Reset < 2 {
			x = api.Tri(l.Reset)
		}
		w.Init = append(w.Init, x)
	}
	for i := range w.In {
		for range a.I {
			w.In[i] = append(w.In[i], api.Tri(r.Intn(3)))
		}
	}
	return w
}

// isBelow: is one trace below another one, row by row?
func isBelow(s, t api.Trace) bool {
	return s.Bad == t.Bad && tern.Below(s.Init, t.Init) && slices.EqualFunc(s.In, t.In, tern.Below)
}

// P10.1, P10.2, P10.4: what is printed is parsed, with a byte of it changed too.
func TestPrintedIsParsed(t *testing.T) {
	r := rand.New(rand.NewSource(101))
	for range 1000 {
		a := someModel(r)
		w := someTrace(r, a)
		if !aig.Right(a) || !wit.Right(a, w) {
			t.Fatalf("%v of %v", w, a)
		}
		s, e := wit.Print(w)
		u, at, e2 := wit.Parse(a, []byte(s))
		if e != api.OK || e2 != api.OK || at != len(s) || !wit.Same(u, w) || !alike(u, w) || !wit.Right(a, u) {
			t.Fatalf("%v: %d, %v, %d, %d", w, e, u, at, e2)
		}
		form := framesForm(a)
		checkText(t, a, form, s)
		for range 20 {
			near := []byte(s)
			near[r.Intn(len(near))] = "01x.\nb2"[r.Intn(7)]
			checkText(t, a, form, string(near))
		}
	}
}

// P10.4: filled, a trace is right still, and below what it was.
func TestFilledIsBelow(t *testing.T) {
	r := rand.New(rand.NewSource(104))
	for range 1000 {
		a := someModel(r)
		w := someTrace(r, a)
		holes := wit.Holes(w)
		for range 5 {
			m := make([]bool, r.Intn(holes+3))
			for i := range m {
				m[i] = r.Intn(2) == 0
			}
			filled := wit.Fill(w, m)
			if !wit.Right(a, filled) || !isBelow(filled, w) || wit.Holes(filled) != max(0, holes-len(m)) || wit.Total(filled) != (len(m) >= holes) {
				t.Fatalf("%v with %v: %v", w, m, filled)
			}
			if s, e := wit.Print(filled); e != api.OK || strings.Count(s, "x") != max(0, holes-len(m)) {
				t.Fatalf("%v with %v: %q", w, m, s)
			}
		}
	}
}

// P10.4: what is right of a model has a text, and one of the same rows that isn't right isn't parsed.
func TestRightIsParsed(t *testing.T) {
	for _, a := range []api.Aig{modelOf(0, "", 1), modelOf(1, "0", 1), modelOf(1, "1", 2), modelOf(1, "x", 2), modelOf(2, "", 1)} {
		for bad := range 3 {
			for _, init := range allRows("01x", 2) {
				for _, frame := range allRows("01x", 2) {
					w := trace(bad, init, frame)
					s, e := wit.Print(w)
					u, _, e2 := wit.Parse(a, []byte(s))
					if e != api.OK || (e2 == api.OK) != wit.Right(a, w) || e2 == api.OK && !alike(u, w) {
						t.Errorf("%v of %v: %q, %v, %d", w, a, s, u, e2)
					}
				}
			}
		}
	}
}

// roomy is a row with memory behind its end, which none may write into.
func roomy(s string) []api.Tri { return append(row(s), 1, 0, 1, 0)[:len(s)] }

// isRoomy: is what lies behind the end as it was?
func isRoomy(l []api.Tri) bool { return slices.Equal(l[len(l):len(l)+4], row("1010")) }

// R3: nothing that is handed in is changed, nor changes with what came out.
func TestFilledStandsAlone(t *testing.T) {
	for _, m := range [][]bool{nil, says("1"), says("0110"), says("01101")} {
		w := api.Trace{Bad: 1, Init: roomy("0x"), In: append([][]api.Tri{roomy("x1"), roomy("0x"), roomy("x0")}, row("11"))[:3]}
		before, said := cloned(w), slices.Clone(m)
		filled := wit.Fill(w, m)
		want := cloned(filled)
		ask := func() {
			wit.Print(w)
			wit.Right(modelOf(2, "0x", 2), w)
			wit.Same(w, filled)
			wit.Total(w)
			wit.Holes(w)
		}
		ask()
		if !alike(w, before) || !slices.Equal(m, said) || !isRoomy(w.Init) || !isRoomy(w.In[0]) || !isRoomy(w.In[2]) || !slices.Equal(w.In[:4][3], row("11")) {
			t.Errorf("with %v what was handed in became %v", m, w)
		}
		for _, l := range append([][]api.Tri{w.Init}, w.In...) {
			clear(l)
		}
		for i := range m {
			m[i] = !m[i]
		}
		clear(w.In)
		if !alike(filled, want) {
			t.Errorf("%v became %v with what was handed in", want, filled)
		}
		w = cloned(before)
		clear(filled.Init)
		for i := range filled.In {
			clear(filled.In[i])
		}
		clear(filled.In)
		if !alike(w, before) {
			t.Errorf("%v became %v with what came out", before, w)
		}
	}
}

// R3: neither does what came out of one call change with what came out of it or of another one.
func TestRowsStandAlone(t *testing.T) {
	a := modelOf(2, "0x", 2)
	b := []byte("1\nb1\n0x\nx1\n0x\n.\n")
	parsed, _, e := wit.Parse(a, b)
	if e != api.OK {
		t.Fatal(e)
	}
	want := cloned(parsed)
	clear(b)
	clear(a.L)
	clear(a.Bad)
	for _, w := range []api.Trace{parsed, wit.Fill(parsed, nil)} {
		_ = append(w.Init, 1, 1, 1, 1)
		for i := range w.In {
			_ = append(w.In[i], 1, 1, 1, 1)
		}
		if !alike(w, want) {
			t.Errorf("%v became %v", want, w)
		}
	}
	again := wit.Fill(parsed, nil)
	clear(again.Init)
	clear(again.In[0])
	clear(again.In)
	if !alike(parsed, want) {
		t.Errorf("%v became %v", want, parsed)
	}
}

// R1: of models that aren't right no call panics, and each ends.
func TestOddModels(t *testing.T) {
	const most = 1<<63 - 1
	for _, a := range []api.Aig{{I: -1}, {I: most}, {I: -most - 1}, {I: most, Bad: []int{0}}, {I: -1, L: []api.Latch{{Reset: -1}, {Reset: most}}, Bad: []int{-1}}} {
		for _, s := range []string{"", "1\nb0\n\n\n.\n", "1\nb0\n\n0\n.\n", "1\nb0\n00\n" + strings.Repeat("0", 90000)} {
			if _, at, _ := wit.Parse(a, []byte(s)); at < 0 || at > len(s) {
				t.Errorf("%q: %d", s, at)
			}
		}
		wit.Right(a, trace(0, "00", "0"))
		wit.Right(a, trace(0, "", ""))
	}
}
