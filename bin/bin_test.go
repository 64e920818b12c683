package bin_test

import (
	"bytes"
	"math"
	"slices"
	"strings"
	"testing"

	"vidimus/aig"
	"vidimus/api"
	"vidimus/bin"
	"vidimus/lex"
)

// cloned is a model in memory of its own.
func cloned(a api.Aig) api.Aig {
	a.L, a.G = slices.Clone(a.L), slices.Clone(a.G)
	a.Outs, a.Bad, a.Con = slices.Clone(a.Outs), slices.Clone(a.Bad), slices.Clone(a.Con)
	a.Names = slices.Clone(a.Names)
	return a
}

// manyNames are those of outputs, from 0 on.
func manyNames(n int) []api.Name {
	out := make([]api.Name, n)
	for i := range out {
		out[i] = api.Name{Kind: 'o', At: i, S: "x"}
	}
	return out
}

func repeated(s string) string { return strings.Repeat(s, api.MaxRow) }

// whole is a model with something of each kind.
func whole() api.Aig {
	return api.Aig{
		I: 2, L: []api.Latch{{Next: 15, Reset: 0}, {Next: 12, Reset: 1}, {Next: 0, Reset: 10}}, G: []api.And{{A: 11, B: 2}, {A: 0, B: 0}},
		Outs: []int{0, 13}, Bad: []int{12}, Con: []int{1, 1},
		Names: []api.Name{{Kind: 'i', At: 0, S: "in put"}, {Kind: 'i', At: 1, S: " "}, {Kind: 'l', At: 2, S: "né"}, {Kind: 'o', At: 0, S: "i0 x"}, {Kind: 'o', At: 1, S: "0"}, {Kind: 'b', At: 0, S: "b"}, {Kind: 'c', At: 1, S: strings.Repeat("é", 40)}},
	}
}

const wholeBytes = "aig 7 2 3 2 2 1 2\n15 0\n12 1\n0 10\n0\n13\n12\n1\n1\n\x01\x09\x0e\x00i0 in put\ni1  \nl2 né\no0 i0 x\no1 0\nb0 b\nc1 éééééééééééééééééééééééééééééééééééééééé\n"

// rightModels have each edge that a right model may have, by their bytes.
func rightModels() map[string]api.Aig {
	return map[string]api.Aig{
		"aig 0 0 0 0 0 0 0\n":                                               {},
		"aig 1 1 0 0 0 0 0\n":                                               {I: 1},
		"aig 20000 20000 0 0 0 0 0\n":                                       {I: api.MaxVar},
		"aig 3 2 0 0 1 0 0\n\x02\x02":                                       {I: 2, G: []api.And{{A: 4, B: 2}}},
		"aig 3 2 0 1 1 0 0\n6\n\x02\x02":                                    {I: 2, Outs: []int{6}, G: []api.And{{A: 4, B: 2}}},
		"aig 1 0 1 0 0 1 0\n2 0\n2\n":                                       {L: []api.Latch{{Next: 2}}, Bad: []int{2}},
		"aig 0 0 0 1 0 2 3\n1\n0\n1\n1\n0\n1\n":                             {Outs: []int{1}, Bad: []int{0, 1}, Con: []int{1, 0, 1}},
		"aig 2 1 1 0 0 0 0\n5 4\n":                                          {I: 1, L: []api.Latch{{Next: 5, Reset: 4}}},
		"aig 1 0 0 0 1 0 0\n\x02\x00":                                       {G: []api.And{{}}},
		"aig 1 0 0 0 1 0 0\n\x01\x00":                                       {G: []api.And{{A: 1, B: 1}}},
		"aig 1 0 0 0 1 0 0\n\x01\x01":                                       {G: []api.And{{A: 1}}},
		"aig 2 0 0 0 2 0 0\n\x01\x01\x01\x00":                               {G: []api.And{{A: 1}, {A: 3, B: 3}}},
		"aig 5 4 0 0 1 0 0\n\x0a\x00":                                       {I: 4, G: []api.And{{}}},
		"aig 6 4 0 0 2 0 0\n\x01\x09\x0a\x02i0 \x7e\n":                      {I: 4, G: []api.And{{A: 9}, {A: 2}}, Names: []api.Name{{Kind: 'i', S: "~"}}},
		"aig 64 63 0 0 1 0 0\n\x80\x01\x00":                                 {I: 63, G: []api.And{{}}},
		"aig 64 63 0 0 1 0 0\n\x7f\x01":                                     {I: 63, G: []api.And{{A: 1}}},
		"aig 65 64 0 0 1 0 0\n\x01\x81\x01":                                 {I: 64, G: []api.And{{A: 129}}},
		"aig 65 64 0 0 1 0 0\n\x02\x80\x01":                                 {I: 64, G: []api.And{{A: 128}}},
		"aig 65 64 0 0 1 0 0\n\x02\x7f":                                     {I: 64, G: []api.And{{A: 128, B: 1}}},
		"aig 8192 8191 0 0 1 0 0\n\x80\x80\x01\x00":                         {I: 8191, G: []api.And{{}}},
		"aig 8192 8191 0 0 1 0 0\n\xff\x7f\x01":                             {I: 8191, G: []api.And{{A: 1}}},
		"aig 20000 19999 0 0 1 0 0\n\xc0\xb8\x02\x00":                       {I: api.MaxVar - 1, G: []api.And{{}}},
		"aig 20000 19999 0 0 1 0 0\n\x01\xbf\xb8\x02":                       {I: api.MaxVar - 1, G: []api.And{{A: 39999}}},
		"aig 0 0 0 1 0 1 1\n0\n0\n0\no0 x\nb0 x\nc0 x\n":                    {Outs: []int{0}, Bad: []int{0}, Con: []int{0}, Names: []api.Name{{Kind: 'o', S: "x"}, {Kind: 'b', S: "x"}, {Kind: 'c', S: "x"}}},
		"aig 2 1 1 0 0 0 0\n0 0\ni0 a\nl0 a\n":                              {I: 1, L: []api.Latch{{}}, Names: []api.Name{{Kind: 'i', S: "a"}, {Kind: 'l', S: "a"}}},
		"aig 3 3 0 0 0 0 0\ni0 a\ni2 b\n":                                   {I: 3, Names: []api.Name{{Kind: 'i', S: "a"}, {Kind: 'i', At: 2, S: "b"}}},
		"aig 3 1 1 0 1 0 0\n7 4\n\x06\x00l0 \ufffd\n":                       {I: 1, L: []api.Latch{{Next: 7, Reset: 4}}, G: []api.And{{}}, Names: []api.Name{{Kind: 'l', S: "\ufffd"}}},
		"aig 0 0 0 2000 0 0 0\n" + repeated("1\n"):                          {Outs: slices.Repeat([]int{1}, api.MaxRow)},
		"aig 0 0 0 0 0 2000 0\n" + repeated("0\n"):                          {Bad: make([]int, api.MaxRow)},
		"aig 0 0 0 0 0 0 2000\n" + repeated("1\n"):                          {Con: slices.Repeat([]int{1}, api.MaxRow)},
		"aig 20000 0 20000 0 0 0 0\n" + strings.Repeat("0 1\n", api.MaxVar): {L: slices.Repeat([]api.Latch{{Reset: 1}}, api.MaxVar)},
		wholeBytes: whole(),
		aig.Names(manyOuts(), "aig 0 0 0 2000 0 0 0\n"+repeated("0\n")): manyOuts(),
	}
}

// manyOuts has as many outputs, and names, as there may be.
func manyOuts() api.Aig {
	return api.Aig{Outs: make([]int, api.MaxRow), Names: manyNames(api.MaxRow)}
}

// P7.1, P7.2: what is right, its bytes, and back.
func TestRightModels(t *testing.T) {
	for s, a := range rightModels() {
		before := cloned(a)
		if got, e := bin.Print(a); string(got) != s || e != api.OK {
			t.Errorf("%.60q is printed as %.60q, %d", s, got, e)
		}
		b, at, e := bin.Parse([]byte(s))
		if at != len(s) || e != api.OK || !aig.Same(a, b) {
			t.Errorf("%.60q: %d, %d", s, at, e)
		}
		if !aig.Same(a, before) {
			t.Errorf("%.60q: the model was changed", s)
		}
	}
}

// P7.1, P7.3: gates of as many variables as there may be, the least and the greatest numbers that these have.
func TestMaxGates(t *testing.T) {
	for _, next := range []func(literal int) api.And{
		func(int) api.And { return api.And{} },
		func(literal int) api.And { return api.And{A: literal - 1, B: literal - 1} },
		func(literal int) api.And { return api.And{A: literal / 2, B: literal / 4} },
	} {
		a := api.Aig{Outs: []int{2*api.MaxVar + 1}}
		for i := range api.MaxVar {
			a.G = append(a.G, next(2+2*i))
		}
		out, e := bin.Print(a)
		b, at, e2 := bin.Parse(out)
		if e != api.OK || len(out) > api.MaxBytes || e2 != api.OK || at != len(out) || !aig.Same(a, b) {
			t.Errorf("%d bytes: %d, %d, %d", len(out), e, at, e2)
		}
	}
}

// notRight are models of which each isn't right in one way.
func notRight() map[string]api.Aig {
	changed := func(change func(a *api.Aig)) api.Aig {
		a := whole()
		change(&a)
		return a
	}
	return map[string]api.Aig{
		"inputs below 0": {I: -1}, "the least inputs": {I: math.MinInt}, "inputs one too many": {I: api.MaxVar + 1}, "the greatest inputs": {I: math.MaxInt},
		"greatest, and a gate": {I: math.MaxInt, G: make([]api.And, 1)}, "below 0, and gates": {I: -1, G: make([]api.And, 1)},
		"latches": {L: make([]api.Latch, api.MaxVar+1)}, "gates": {G: make([]api.And, api.MaxVar+1)}, "both": {I: 1, L: make([]api.Latch, 1), G: make([]api.And, api.MaxVar-1)},
		"outputs": {Outs: make([]int, api.MaxRow+1)}, "bads": {Bad: make([]int, api.MaxRow+1)}, "constraints": {Con: make([]int, api.MaxRow+1)},
		"names":      {I: 1, Outs: make([]int, api.MaxRow), Names: append([]api.Name{{Kind: 'i', S: "x"}}, manyNames(api.MaxRow)...)},
		"next":       changed(func(a *api.Aig) { a.L[2].Next = 16 }),
		"next below": changed(func(a *api.Aig) { a.L[0].Next = -1 }),
		"output":     changed(func(a *api.Aig) { a.Outs[1] = 16 }),
		"bad":        changed(func(a *api.Aig) { a.Bad[0] = 16 }),
		"constraint": changed(func(a *api.Aig) { a.Con[0] = -1 }),
		"reset":      changed(func(a *api.Aig) { a.L[2].Reset = 8 }),
		"reset odd":  changed(func(a *api.Aig) { a.L[2].Reset = 11 }),
		"A its own":  changed(func(a *api.Aig) { a.G[0] = api.And{A: 12} }),
		"A above":    changed(func(a *api.Aig) { a.G[0] = api.And{A: 13} }),
		"B above A":  changed(func(a *api.Aig) { a.G[1] = api.And{A: 4, B: 5} }),
		"B below 0":  changed(func(a *api.Aig) { a.G[1] = api.And{A: 4, B: -1} }),
		"both below": changed(func(a *api.Aig) { a.G[1] = api.And{A: -2, B: -2} }),
		"name twice": changed(func(a *api.Aig) { a.Names[1] = a.Names[0] }),
		"name order": changed(func(a *api.Aig) { a.Names[4], a.Names[5] = a.Names[5], a.Names[4] }),
		"name place": changed(func(a *api.Aig) { a.Names[6].At = 2 }),
		"name kind":  changed(func(a *api.Aig) { a.Names[6].Kind = 'j' }),
		"no name":    changed(func(a *api.Aig) { a.Names[3].S = "" }),
		"name's end": changed(func(a *api.Aig) { a.Names[3].S = "a\nb" }),
	}
}

// P7.1, P7.3: what isn't right isn't printed, neither as bytes nor as a text.
func TestPrintNotRight(t *testing.T) {
	for name, a := range notRight() {
		before := cloned(a)
		if out, e := bin.Print(a); out != nil || e != api.ErrArg {
			t.Errorf("%s: %.60q, %d", name, out, e)
		}
		if s, e := aig.Print(a); s != "" || e != api.ErrArg {
			t.Errorf("%s: a text: %.60q, %d", name, s, e)
		}
		if !aig.Same(a, before) {
			t.Errorf("%s: the model was changed", name)
		}
	}
}

// P7.1: gates' bytes, from a literal on.
func TestGates(t *testing.T) {
	for _, x := range []struct {
		g     []api.And
		first int
		want  string
	}{
		{nil, 2, ""}, {[]api.And{}, 40000, ""}, {nil, 0, ""},
		{[]api.And{{}}, 2, "\x02\x00"}, {[]api.And{{A: 1}}, 2, "\x01\x01"}, {[]api.And{{A: 1, B: 1}}, 2, "\x01\x00"},
		{[]api.And{{A: 4, B: 2}}, 6, "\x02\x02"}, {[]api.And{{A: 4, B: 2}}, 8, "\x04\x02"}, {[]api.And{{A: 4, B: 2}}, 5000, "\x84\x27\x02"},
		{[]api.And{{}, {}, {}}, 2, "\x02\x00\x04\x00\x06\x00"}, {[]api.And{{A: 5, B: 5}, {A: 7, B: 6}, {A: 9}}, 6, "\x01\x00\x01\x01\x01\x09"},
		{[]api.And{{}, {}}, 126, "\x7e\x00\x80\x01\x00"}, {[]api.And{{A: 1}, {A: 1}}, 126, "\x7d\x01\x7f\x01"}, {[]api.And{{A: 1}}, 128, "\x7f\x01"}, {[]api.And{{A: 1, B: 1}}, 130, "\x81\x01\x00"},
		{[]api.And{{A: 127}}, 128, "\x01\x7f"}, {[]api.And{{A: 128}}, 130, "\x02\x80\x01"}, {[]api.And{{A: 128, B: 1}}, 130, "\x02\x7f"},
		{[]api.And{{}}, 300, "\xac\x02\x00"}, {[]api.And{{}}, 16384, "\x80\x80\x01\x00"}, {[]api.And{{A: 1}}, 16384, "\xff\x7f\x01"}, {[]api.And{{A: 39999}}, 40000, "\x01\xbf\xb8\x02"},
	} {
		before := slices.Clone(x.g)
		if got := bin.Gates(x.g, x.first); string(got) != x.want {
			t.Errorf("%v from %d: %q, not %q", x.g, x.first, got, x.want)
		}
		if !slices.Equal(x.g, before) {
			t.Errorf("%v became %v", before, x.g)
		}
	}
	if got := bin.Gates(whole().G, 12); !strings.Contains(wholeBytes, "1\n1\n"+string(got)+"i0 ") {
		t.Errorf("of the whole model: %q", got)
	}
}

// P7.1: each gate's two numbers stand alone, behind those of the gates ahead.
func TestGatesOneByOne(t *testing.T) {
	var g []api.And
	var want []byte
	const first = 70
	for i := range 500 {
		literal := first + 2*i
		x := api.And{A: (i*37 + 11) % literal}
		x.B = (i * 101) % (x.A + 1)
		g = append(g, x)
		want = append(append(want, lex.Put(literal-x.A)...), lex.Put(x.A-x.B)...)
		if got := bin.Gates(g, first); !bytes.Equal(got, want) {
			t.Fatalf("%d gates: %v, not %v", i+1, got, want)
		}
	}
}

// Gates of no right model have no promise but that the call ends.
func TestWrongGatesEnd(t *testing.T) {
	some := []int{0, 1, 2, -1, 200, math.MaxInt, math.MinInt, math.MaxInt - 1}
	for _, first := range some {
		for _, a := range some {
			for _, b := range some {
				bin.Gates([]api.And{{A: a, B: b}, {A: b, B: a}}, first)
			}
		}
	}
}

// R3: what is printed is new each time.
func TestPrintedStandsAlone(t *testing.T) {
	a := whole()
	out, _ := bin.Print(a)
	g := bin.Gates(a.G, 12)
	clear(out)
	clear(g)
	if again, e := bin.Print(a); string(again) != wholeBytes || e != api.OK || string(bin.Gates(a.G, 12)) != "\x01\x09\x0e\x00" {
		t.Errorf("%q, %d", again, e)
	}
}
