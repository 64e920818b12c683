package aig_test

import (
	"math"
	"slices"
	"strings"
	"testing"

	"vidimus/aig"
	"vidimus/api"
)

// cloned is a model in memory of its own.
func cloned(a api.Aig) api.Aig {
	a.L, a.G = slices.Clone(a.L), slices.Clone(a.G)
	a.Outs, a.Bad, a.Con = slices.Clone(a.Outs), slices.Clone(a.Bad), slices.Clone(a.Con)
	a.Names = slices.Clone(a.Names)
	return a
}

// names are those of the places from 0 on.
func names(kind byte, n int) []api.Name {
	out := make([]api.Name, n)
	for i := range out {
		out[i] = api.Name{Kind: kind, At: i, S: "x"}
	}
	return out
}

// whole is a model with something of each kind.
func whole() api.Aig {
	return api.Aig{
		I: 2, L: []api.Latch{{Next: 13, Reset: 0}, {Next: 12, Reset: 1}, {Next: 0, Reset: 10}}, G: []api.And{{A: 11, B: 2}},
		Outs: []int{0, 13}, Bad: []int{12}, Con: []int{1, 1},
		Names: []api.Name{{Kind: 'i', At: 0, S: "in put"}, {Kind: 'i', At: 1, S: " "}, {Kind: 'l', At: 2, S: "né"}, {Kind: 'o', At: 0, S: "i0 x"}, {Kind: 'o', At: 1, S: "0"}, {Kind: 'b', At: 0, S: "b"}, {Kind: 'c', At: 1, S: strings.Repeat("é", 40)}},
	}
}

const wholeText = "aag 6 2 3 2 1 1 2\n2\n4\n6 13 0\n8 12 1\n10 0 10\n0\n13\n12\n1\n1\n12 11 2\ni0 in put\ni1  \nl2 né\no0 i0 x\no1 0\nb0 b\nc1 éééééééééééééééééééééééééééééééééééééééé\n"

// changed is the whole model with something else in it.
func changed(change func(a *api.Aig)) api.Aig {
	a := whole()
	change(&a)
	return a
}

// rightModels have each edge that a right model may have, by their texts.
func rightModels() map[string]api.Aig {
	return map[string]api.Aig{
		"aag 0 0 0 0 0 0 0\n":                            {},
		"aag 1 1 0 0 0 0 0\n2\n":                         {I: 1},
		"aag 3 2 0 1 1 0 0\n2\n4\n6\n6 4 2\n":            {I: 2, Outs: []int{6}, G: []api.And{{A: 4, B: 2}}},
		"aag 1 0 1 0 0 1 0\n2 2 0\n2\n":                  {L: []api.Latch{{Next: 2}}, Bad: []int{2}},
		"aag 0 0 0 1 0 2 3\n1\n0\n1\n1\n0\n1\n":          {Outs: []int{1}, Bad: []int{0, 1}, Con: []int{1, 0, 1}},
		"aag 1 0 1 0 0 0 0\n2 3 2\n":                     {L: []api.Latch{{Next: 3, Reset: 2}}},
		"aag 2 1 1 0 0 0 0\n2\n4 5 4\n":                  {I: 1, L: []api.Latch{{Next: 5, Reset: 4}}},
		"aag 1 0 0 0 1 0 0\n2 0 0\n":                     {G: []api.And{{}}},
		"aag 1 0 0 0 1 0 0\n2 1 1\n":                     {G: []api.And{{A: 1, B: 1}}},
		"aag 2 0 0 0 2 0 0\n2 1 0\n4 3 3\n":              {G: []api.And{{A: 1}, {A: 3, B: 3}}},
		"aag 1 0 0 0 1 0 0\n2 1 0\n":                     {G: []api.And{{A: 1}}},
		"aag 1 0 0 1 1 0 0\n3\n2 1 0\no0 \ufffd\n":       {G: []api.And{{A: 1}}, Outs: []int{3}, Names: []api.Name{{Kind: 'o', S: "\ufffd"}}},
		"aag 0 0 0 1 0 1 1\n0\n0\n0\no0 x\nb0 x\nc0 x\n": {Outs: []int{0}, Bad: []int{0}, Con: []int{0}, Names: []api.Name{{Kind: 'o', S: "x"}, {Kind: 'b', S: "x"}, {Kind: 'c', S: "x"}}},
		"aag 2 1 1 0 0 0 0\n2\n4 0 0\ni0 a\nl0 a\n":      {I: 1, L: []api.Latch{{}}, Names: []api.Name{{Kind: 'i', S: "a"}, {Kind: 'l', S: "a"}}},
		"aag 3 3 0 0 0 0 0\n2\n4\n6\ni0 a\ni2 b\n":       {I: 3, Names: []api.Name{{Kind: 'i', S: "a"}, {Kind: 'i', At: 2, S: "b"}}},
		"aag 1 1 0 0 0 0 1\n2\n3\nc0 c\n":                {I: 1, Con: []int{3}, Names: []api.Name{{Kind: 'c', S: "c"}}},
		"aag 0 0 0 2000 0 0 0\n" + repeated("1\n"):       {Outs: slices.Repeat([]int{1}, api.MaxRow)},
		"aag 0 0 0 0 0 2000 0\n" + repeated("0\n"):       {Bad: make([]int, api.MaxRow)},
		"aag 0 0 0 0 0 0 2000\n" + repeated("1\n"):       {Con: slices.Repeat([]int{1}, api.MaxRow)},
		wholeText: whole(),
		aig.Names(manyOuts(), "aag 0 0 0 2000 0 0 0\n"+repeated("0\n")): manyOuts(),
	}
}

func repeated(s string) string { return strings.Repeat(s, api.MaxRow) }

// manyOuts has as many outputs, and names, as there may be.
func manyOuts() api.Aig {
	return api.Aig{Outs: make([]int, api.MaxRow), Names: names('o', api.MaxRow)}
}

// P6.1, P6.2: what is right, its text, and back.
func TestRightModels(t *testing.T) {
	for s, a := range rightModels() {
		before := cloned(a)
		if !aig.Right(a) {
			t.Errorf("not right: %.60q", s)
		}
		if got, e := aig.Print(a); got != s || e != api.OK {
			t.Errorf("%.60q is printed as %.60q, %d", s, got, e)
		}
		b, at, e := aig.Parse([]byte(s))
		if at != len(s) || e != api.OK || !aig.Same(a, b) || !aig.Same(b, a) {
			t.Errorf("%.60q: %d, %d", s, at, e)
		}
		if !aig.Same(a, before) {
			t.Errorf("%.60q: the model was changed", s)
		}
	}
}

// P6.1: models of MaxVar variables, however they are shared out, are right and printed, and such of one more aren't.
func TestMaxVar(t *testing.T) {
	const most = api.MaxVar
	for _, x := range []struct{ inputs, latches, gates int }{
		{most, 0, 0}, {0, most, 0}, {0, 0, most}, {1, most - 2, 1}, {most - 2, 1, 1}, {1, 1, most - 2}, {7000, 7000, 6000},
	} {
		a := api.Aig{I: x.inputs, L: make([]api.Latch, x.latches), G: make([]api.And, x.gates), Outs: []int{2*most + 1}}
		s, e := aig.Print(a)
		if !aig.Right(a) || e != api.OK || strings.Count(s, "\n") != most+2 || aig.Vars(a) != most {
			t.Errorf("%v: %d, %d", x, e, aig.Vars(a))
		}
		for _, change := range []func(a *api.Aig){
			func(a *api.Aig) { a.I++ }, func(a *api.Aig) { a.L = append(a.L, api.Latch{}) }, func(a *api.Aig) { a.G = append(a.G, api.And{}) },
			func(a *api.Aig) { a.Outs[0]++ },
		} {
			b := cloned(a)
			change(&b)
			checkNotRight(t, "of more", b)
		}
	}
}

func checkNotRight(t *testing.T, name string, a api.Aig) {
	t.Helper()
	before := cloned(a)
	s, e := aig.Print(a)
	if aig.Right(a) || s != "" || e != api.ErrArg {
		t.Errorf("%s: right: %.60q, %d", name, s, e)
	}
	if !aig.Same(a, before) {
		t.Errorf("%s: the model was changed", name)
	}
}

// P6.1: what isn't right isn't printed: how many there are.
func TestTooMany(t *testing.T) {
	for name, a := range map[string]api.Aig{
		"inputs below 0":        {I: -1},
		"the least inputs":      {I: math.MinInt},
		"below 0, and latches":  {I: -1, L: make([]api.Latch, 2)},
		"below 0, and gates":    {I: -3, G: make([]api.And, 3)},
		"inputs one too many":   {I: api.MaxVar + 1},
		"the greatest inputs":   {I: math.MaxInt},
		"greatest, and a latch": {I: math.MaxInt, L: make([]api.Latch, 1)},
		"greatest, and gates":   {I: math.MaxInt, G: make([]api.And, 2)},
		"outputs":               {Outs: make([]int, api.MaxRow+1)},
		"bads":                  {Bad: make([]int, api.MaxRow+1)},
		"constraints":           {Con: make([]int, api.MaxRow+1)},
		"names of inputs":       {I: api.MaxRow + 1, Names: names('i', api.MaxRow+1)},
		"names of latches":      {L: make([]api.Latch, api.MaxRow+1), Names: names('l', api.MaxRow+1)},
		"names of two kinds":    {I: 1, Outs: make([]int, api.MaxRow), Names: append(names('i', 1), names('o', api.MaxRow)...)},
	} {
		checkNotRight(t, name, a)
	}
	for name, a := range map[string]api.Aig{
		"all that there may be": {Outs: make([]int, api.MaxRow), Bad: make([]int, api.MaxRow), Con: make([]int, api.MaxRow), Names: names('c', api.MaxRow)},
		"names of inputs":       {I: api.MaxRow + 1, Names: names('i', api.MaxRow)},
		"names of latches":      {L: make([]api.Latch, api.MaxRow+1), Names: names('l', api.MaxRow+1)[1:]},
	} {
		if !aig.Right(a) {
			t.Errorf("not right: %s", name)
		}
	}
}

// P6.1: literals, of the whole model from 0 to 13, each way out of them.
func TestLiterals(t *testing.T) {
	for _, x := range []int{-1, 14, 15, -2, math.MinInt, math.MaxInt, math.MinInt + 13, 1 << 32} {
		for name, change := range map[string]func(a *api.Aig){
			"first next": func(a *api.Aig) { a.L[0].Next = x }, "last next": func(a *api.Aig) { a.L[2].Next = x },
			"first output": func(a *api.Aig) { a.Outs[0] = x }, "last output": func(a *api.Aig) { a.Outs[1] = x },
			"bad": func(a *api.Aig) { a.Bad[0] = x }, "first constraint": func(a *api.Aig) { a.Con[0] = x }, "last constraint": func(a *api.Aig) { a.Con[1] = x },
		} {
			checkNotRight(t, name, changed(change))
		}
	}
	for x := range 14 {
		a := changed(func(a *api.Aig) { a.L[0].Next, a.L[2].Next, a.Outs[0], a.Bad[0], a.Con[1] = x, x, x, x, x })
		if !aig.Right(a) {
			t.Errorf("not right: %d", x)
		}
	}
}

// P6.1: what latches may be at first: 0, 1, or their own literal, and no other one.
func TestResets(t *testing.T) {
	for i := range 3 {
		own := 6 + 2*i
		for _, x := range []int{-1, 0, 1, 2, 3, 4, 5, 6, 7, 8, 9, 10, 11, 12, 13, 14, -own, math.MinInt, math.MaxInt} {
			a := changed(func(a *api.Aig) { a.L[i].Reset = x })
			if x == 0 || x == 1 || x == own {
				if !aig.Right(a) {
					t.Errorf("latch %d: not right: %d", i, x)
				}
			} else {
				checkNotRight(t, "reset", a)
			}
		}
	}
}

// P6.1: a gate's two: B from 0 to A, A below the gate's literal.
func TestGates(t *testing.T) {
	model := api.Aig{I: 1, L: make([]api.Latch, 1), G: make([]api.And, 3)}
	for i := range 3 {
		literal := 6 + 2*i
		for x := -2; x < 14; x++ {
			for y := -2; y < 14; y++ {
				a := cloned(model)
				a.G[i] = api.And{A: x, B: y}
				if 0 <= y && y <= x && x < literal {
					if !aig.Right(a) {
						t.Errorf("gate %d: not right: %d, %d", i, x, y)
					}
				} else {
					checkNotRight(t, "gate", a)
				}
			}
		}
		for _, g := range []api.And{{A: math.MaxInt}, {A: math.MinInt, B: math.MinInt}, {A: 0, B: math.MinInt}, {A: math.MaxInt, B: math.MaxInt}, {A: 0, B: math.MaxInt}} {
			a := cloned(model)
			a.G[i] = g
			checkNotRight(t, "gate", a)
		}
	}
}

// P6.1: names by kinds, then by places, each of something that there is.
func TestNameOrder(t *testing.T) {
	const kinds = "ilobc"
	model := api.Aig{I: 2, L: make([]api.Latch, 2), Outs: make([]int, 2), Bad: make([]int, 2), Con: make([]int, 2)}
	for first := range 10 {
		for second := range 10 {
			a := model
			a.Names = []api.Name{{Kind: kinds[first/2], At: first % 2, S: "x"}, {Kind: kinds[second/2], At: second % 2, S: "y"}}
			if first >= second {
				checkNotRight(t, "names", a)
			} else if !aig.Right(a) {
				t.Errorf("not right: %v", a.Names)
			}
		}
	}
	all := model
	for i := range 10 {
		all.Names = append(all.Names, api.Name{Kind: kinds[i/2], At: i % 2, S: "same"})
	}
	if !aig.Right(all) {
		t.Error("not right: all names")
	}
	for i := range 9 {
		a := cloned(all)
		a.Names[i], a.Names[i+1] = a.Names[i+1], a.Names[i]
		checkNotRight(t, "names the other way round", a)
	}
}

// P6.1: names of what there isn't, of what is no kind, and with a text that is no name.
func TestWrongNames(t *testing.T) {
	for _, n := range []api.Name{
		{Kind: 'i', At: 2, S: "x"}, {Kind: 'l', At: 3, S: "x"}, {Kind: 'o', At: 2, S: "x"}, {Kind: 'b', At: 1, S: "x"}, {Kind: 'c', At: 2, S: "x"},
		{Kind: 'i', At: -1, S: "x"}, {Kind: 'l', At: -1, S: "x"}, {Kind: 'o', At: -1, S: "x"}, {Kind: 'b', At: -1, S: "x"}, {Kind: 'c', At: -1, S: "x"},
		{Kind: 'c', At: math.MaxInt, S: "x"}, {Kind: 'c', At: math.MinInt, S: "x"},
		{Kind: 'a', S: "x"}, {Kind: 'g', S: "x"}, {Kind: 'I', S: "x"}, {Kind: 0, S: "x"}, {Kind: 255, S: "x"}, {Kind: 'j', S: "x"}, {Kind: 'f', S: "x"},
		{Kind: 'b'}, {Kind: 'b', S: "\n"}, {Kind: 'b', S: "a\nb"}, {Kind: 'b', S: "\x1f"}, {Kind: 'b', S: "\x7f"}, {Kind: 'b', S: "\xff"}, {Kind: 'b', S: strings.Repeat("é", 41)},
	} {
		checkNotRight(t, "a name alone", changed(func(a *api.Aig) { a.Names = []api.Name{n} }))
	}
	for name, s := range map[string]string{"first": "", "later": "\n"} {
		checkNotRight(t, name, changed(func(a *api.Aig) { a.Names[0].S = s }))
		checkNotRight(t, name, changed(func(a *api.Aig) { a.Names[6].S = s }))
	}
	checkNotRight(t, "behind others", changed(func(a *api.Aig) { a.Names[6].At = 2 }))
	checkNotRight(t, "a name of nothing", api.Aig{Names: []api.Name{{Kind: 'i', S: "x"}}})
	checkNotRight(t, "a gate's name", api.Aig{G: make([]api.And, 1), Names: []api.Name{{Kind: 'a', S: "x"}}})
}

// P6.1: the last variable, of any model.
func TestVars(t *testing.T) {
	for _, x := range []struct {
		a api.Aig
		n int
	}{
		{api.Aig{}, 0}, {api.Aig{I: 5}, 5}, {api.Aig{L: make([]api.Latch, 3)}, 3}, {api.Aig{G: make([]api.And, 4)}, 4}, {whole(), 6},
		{api.Aig{I: 1, L: make([]api.Latch, 20), G: make([]api.And, 300)}, 321}, {api.Aig{Outs: make([]int, 9), Bad: make([]int, 9), Con: make([]int, 9), Names: names('o', 9)}, 0},
		{api.Aig{I: -3, L: make([]api.Latch, 1)}, -2}, {api.Aig{I: math.MaxInt, L: make([]api.Latch, 1)}, math.MinInt},
	} {
		if n := aig.Vars(x.a); n != x.n {
			t.Errorf("%d, not %d", n, x.n)
		}
	}
}

// P6.1: the lines of names, behind something or nothing, be the model right or not.
func TestNames(t *testing.T) {
	for _, x := range []struct {
		a       api.Aig
		s, want string
	}{
		{api.Aig{}, "", ""}, {api.Aig{}, "x", "x"}, {api.Aig{I: 7}, "a\n\xff", "a\n\xff"},
		{whole(), "", wholeText[strings.Index(wholeText, "i0"):]}, {whole(), "s", "s" + wholeText[strings.Index(wholeText, "i0"):]},
		{api.Aig{I: 1, Names: names('i', 1)}, "ahead\n", "ahead\ni0 x\n"},
		{api.Aig{Names: []api.Name{{Kind: 'c', At: 12345, S: "later"}, {Kind: 'i', S: "\n"}}}, "", "c12345 later\ni0 \n\n"},
		{api.Aig{Names: []api.Name{{Kind: 200, At: -1, S: "\xff"}, {}}}, "q", "q\xc8-1 \xff\n\x000 \n"},
	} {
		before := cloned(x.a)
		if got := aig.Names(x.a, x.s); got != x.want || !aig.Same(x.a, before) {
			t.Errorf("%q, not %q", got, x.want)
		}
	}
}

// P6.1: the same is all of it, in order, be it right or not.
func TestSame(t *testing.T) {
	all := []api.Aig{
		{}, whole(), {I: 1}, {I: -1}, {L: make([]api.Latch, 1)}, {L: make([]api.Latch, 2)}, {G: make([]api.And, 1)}, {Outs: []int{0}}, {Bad: []int{0}}, {Con: []int{0}}, {Names: make([]api.Name, 1)},
		changed(func(a *api.Aig) { a.I++ }),
		changed(func(a *api.Aig) { a.L[1].Next++ }), changed(func(a *api.Aig) { a.L[2].Reset = 0 }), changed(func(a *api.Aig) { a.L[0], a.L[1] = a.L[1], a.L[0] }), changed(func(a *api.Aig) { a.L = a.L[:2] }),
		changed(func(a *api.Aig) { a.G[0].A-- }), changed(func(a *api.Aig) { a.G[0].B-- }), changed(func(a *api.Aig) { a.G = nil }), changed(func(a *api.Aig) { a.G = append(a.G, api.And{}) }),
		changed(func(a *api.Aig) { a.Outs[1]-- }), changed(func(a *api.Aig) { a.Outs = []int{13, 0} }), changed(func(a *api.Aig) { a.Outs = a.Outs[:1] }),
		changed(func(a *api.Aig) { a.Bad[0]-- }), changed(func(a *api.Aig) { a.Bad = nil }), changed(func(a *api.Aig) { a.Con[1]-- }), changed(func(a *api.Aig) { a.Con = a.Con[:1] }), changed(func(a *api.Aig) { a.Outs, a.Con = a.Con, a.Outs }),
		changed(func(a *api.Aig) { a.Names[0].Kind = 'x' }), changed(func(a *api.Aig) { a.Names[6].At = 0 }), changed(func(a *api.Aig) { a.Names[3].S = "y" }), changed(func(a *api.Aig) { a.Names = a.Names[:6] }), changed(func(a *api.Aig) { a.Names[0], a.Names[1] = a.Names[1], a.Names[0] }),
	}
	for i, a := range all {
		for k, b := range all {
			if aig.Same(a, cloned(b)) != (i == k) {
				t.Errorf("%v and %v: %v", a, b, i != k)
			}
		}
	}
	empty := api.Aig{L: []api.Latch{}, G: []api.And{}, Outs: []int{}, Bad: []int{}, Con: []int{}, Names: []api.Name{}}
	if !aig.Same(empty, api.Aig{}) || !aig.Same(api.Aig{}, empty) {
		t.Error("a list without elements may be nil")
	}
}
