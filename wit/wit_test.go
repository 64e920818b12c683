package wit_test

import (
	"math"
	"slices"
	"strconv"
	"strings"
	"testing"

	"vidimus/api"
	"vidimus/wit"
)

// row is one by its text, of which ? is 3, and ! is 255, neither of them a value; of an empty text there is no list.
func row(s string) []api.Tri {
	var out []api.Tri
	for i := range len(s) {
		out = append(out, map[byte]api.Tri{'0': 0, '1': 1, 'x': api.X, '?': 3, '!': 255}[s[i]])
	}
	return out
}

// trace is one by the texts of its rows.
func trace(bad int, init string, in ...string) api.Trace {
	t := api.Trace{Bad: bad, Init: row(init)}
	for _, s := range in {
		t.In = append(t.In, row(s))
	}
	return t
}

// repeat is as many frames of one text.
func repeat(s string, n int) []string {
	out := make([]string, n)
	for i := range out {
		out[i] = s
	}
	return out
}

// cloned is a trace that shares nothing with another one.
func cloned(t api.Trace) api.Trace {
	out := api.Trace{Bad: t.Bad, Init: slices.Clone(t.Init)}
	for _, l := range t.In {
		out.In = append(out.In, slices.Clone(l))
	}
	return out
}

// alike: are two the same, by other means?
func alike(s, t api.Trace) bool {
	if s.Bad != t.Bad || len(s.In) != len(t.In) || string(bytesOf(s.Init)) != string(bytesOf(t.Init)) {
		return false
	}
	for i := range s.In {
		if string(bytesOf(s.In[i])) != string(bytesOf(t.In[i])) {
			return false
		}
	}
	return true
}

func bytesOf(l []api.Tri) []byte {
	out := make([]byte, len(l))
	for i, x := range l {
		out[i] = byte(x)
	}
	return out
}

// modelOf has inputs, latches with these Resets (x is one's own literal), and bads.
func modelOf(inputs int, resets string, bads int) api.Aig {
	a := api.Aig{I: inputs, Bad: make([]int, bads)}
	for i := range len(resets) {
		own := 2 * (1 + inputs + i)
		a.L = append(a.L, api.Latch{Reset: map[byte]int{'0': 0, '1': 1, 'x': own}[resets[i]]})
	}
	return a
}

// P10.1: each part of what makes a trace right.
func TestRight(t *testing.T) {
	a := modelOf(2, "01xx", 3)
	for _, x := range []struct {
		name string
		w    api.Trace
		is   bool
	}{
		{"the first bad", trace(0, "0101", "01"), true}, {"the last bad", trace(2, "0101", "01"), true}, {"one behind it", trace(3, "0101", "01"), false},
		{"a bad below 0", trace(-1, "0101", "01"), false}, {"the least bad", trace(math.MinInt, "0101", "01"), false}, {"the greatest bad", trace(math.MaxInt, "0101", "01"), false},
		{"free latches", trace(0, "0100", "01"), true}, {"free latches", trace(0, "0111", "01"), true}, {"free latches", trace(0, "01xx", "01"), true}, {"free latches", trace(0, "01x1", "01"), true},
		{"what is 0 is 1", trace(0, "1100", "01"), false}, {"what is 0 is X", trace(0, "x100", "01"), false}, {"what is 0 is none", trace(0, "?100", "01"), false},
		{"what is 1 is 0", trace(0, "0000", "01"), false}, {"what is 1 is X", trace(0, "0x00", "01"), false}, {"what is 1 is none", trace(0, "0!00", "01"), false},
		{"Init is too short", trace(0, "010", "01"), false}, {"Init is too long", trace(0, "01000", "01"), false}, {"Init is nil", trace(0, "", "01"), false}, {"Init is empty", api.Trace{Init: []api.Tri{}, In: trace(0, "", "01").In}, false},
		{"what is no value in Init", trace(0, "01?0", "01"), false}, {"what is no value in Init", trace(0, "010!", "01"), false},
		{"no frame", trace(0, "0100"), false}, {"no frame", api.Trace{Init: row("0100"), In: [][]api.Tri{}}, false},
		{"two frames", trace(0, "0100", "01", "xx"), true}, {"200 frames", trace(0, "0100", repeat("1x", 200)...), true}, {"201 frames", trace(0, "0100", repeat("1x", 201)...), false}, {"1000 frames", trace(0, "0100", repeat("1x", 1000)...), false},
		{"a frame is too short", trace(0, "0100", "0"), false}, {"a frame is too short", trace(0, "0100", "01", "0", "11"), false}, {"the last frame is too short", trace(0, "0100", "01", "01", "1"), false}, {"a frame is nil", trace(0, "0100", "01", ""), false},
		{"a frame is too long", trace(0, "0100", "011"), false}, {"a frame is too long", trace(0, "0100", "01", "000", "11"), false}, {"the last frame is too long", trace(0, "0100", "01", "01", "111"), false},
		{"what is no value in a frame", trace(0, "0100", "?1"), false}, {"what is no value in a frame", trace(0, "0100", "01", "1!"), false}, {"what is no value in the last frame", trace(0, "0100", "01", "01", "1?"), false},
		{"nothing", api.Trace{}, false},
	} {
		if is := wit.Right(a, x.w); is != x.is {
			t.Errorf("%s: %v: %v", x.name, x.w, is)
		}
	}
}

// P10.1: of models without inputs, latches, or bads.
func TestRightOfFew(t *testing.T) {
	for _, x := range []struct {
		a  api.Aig
		w  api.Trace
		is bool
	}{
		{modelOf(0, "", 1), trace(0, "", ""), true}, {modelOf(0, "", 1), trace(0, "", repeat("", 200)...), true}, {modelOf(0, "", 1), trace(0, "", repeat("", 201)...), false}, {modelOf(0, "", 1), api.Trace{Init: []api.Tri{}, In: [][]api.Tri{{}, nil}}, true},
		{modelOf(0, "", 1), trace(0, ""), false}, {modelOf(0, "", 1), trace(0, "", "0"), false}, {modelOf(0, "", 1), trace(0, "0", ""), false}, {modelOf(0, "", 1), trace(1, "", ""), false},
		{modelOf(0, "", 0), trace(0, "", ""), false}, {modelOf(1, "x", 0), trace(0, "x", "x"), false}, {modelOf(1, "x", 0), trace(-1, "x", "x"), false},
		{modelOf(1, "", 1), trace(0, "", "x"), true}, {modelOf(1, "", 1), trace(0, "x", "x"), false}, {modelOf(1, "", 1), trace(0, "", ""), false},
		{modelOf(0, "x", 1), trace(0, "x", ""), true}, {modelOf(0, "x", 1), trace(0, "x", "x"), false}, {modelOf(0, "x", 1), trace(0, "", ""), false},
		{modelOf(0, "0", 2000), trace(1999, "0", ""), true}, {modelOf(0, "0", 2000), trace(2000, "0", ""), false},
	} {
		if is := wit.Right(x.a, x.w); is != x.is {
			t.Errorf("%.60v: %v", x.w, is)
		}
	}
}

// allRows are all rows up to a length, of these signs.
func allRows(signs string, most int) []string {
	out := []string{""}
	for from := 0; most > 0; most-- {
		last := len(out)
		for _, s := range out[from:last] {
			for i := range len(signs) {
				out = append(out, s+signs[i:i+1])
			}
		}
		from = last
	}
	return out
}

// P10.1: all Resets of two latches, and all rows of up to three places, right ones or not.
func TestRightOfAllRows(t *testing.T) {
	for _, resets := range allRows("01x", 2) {
		a := modelOf(2, resets, 1)
		may := map[string]bool{"": true}
		for i := range len(resets) {
			next := map[string]bool{}
			for s := range may {
				for _, sign := range strings.Split(map[byte]string{'0': "0", '1': "1", 'x': "0 1 x"}[resets[i]], " ") {
					next[s+sign] = true
				}
			}
			may = next
		}
		for _, s := range allRows("01x?!", 3) {
			if is := wit.Right(a, trace(0, s, "01")); is != may[s] {
				t.Errorf("%q of latches %q: %v", s, resets, is)
			}
			want := len(s) == 2 && !strings.ContainsAny(s, "?!")
			first := strings.ReplaceAll(resets, "x", "1")
			if is := wit.Right(a, trace(0, first, s)); is != want {
				t.Errorf("frame %q: %v", s, is)
			}
			if is := wit.Right(a, trace(0, first, "x1", s, "0x")); is != want {
				t.Errorf("frame %q between others: %v", s, is)
			}
		}
	}
}

// P10.1: the same is all of it.
func TestSame(t *testing.T) {
	all := []api.Trace{
		{}, trace(1, "01", "x0", "11"),
		trace(0, "01", "x0", "11"), trace(-1, "01", "x0", "11"), trace(1, "x1", "x0", "11"), trace(1, "00", "x0", "11"), trace(1, "0", "x0", "11"), trace(1, "010", "x0", "11"), trace(1, "", "x0", "11"), trace(1, "?1", "x0", "11"), trace(1, "!1", "x0", "11"),
		trace(1, "01", "00", "11"), trace(1, "01", "xx", "11"), trace(1, "01", "x", "11"), trace(1, "01", "x00", "11"), trace(1, "01", "", "11"), trace(1, "01", "x0", "10"), trace(1, "01", "x0", "1"), trace(1, "01", "x0", "111"), trace(1, "01", "x0", "1?"),
		trace(1, "01"), trace(1, "01", "x0"), trace(1, "01", "11"), trace(1, "01", "x0", "11", "11"), trace(1, "01", "x0", "11", ""), trace(1, "01", "11", "x0"), trace(1, "01", "x011"), trace(1, "01x0", "11"),
		trace(1, ""), trace(0, "", ""), trace(0, "", "", ""), trace(0, "", "", "0"), trace(0, "", "0", ""), trace(0, "0"), trace(0, "", "0"), trace(math.MaxInt, ""), trace(math.MinInt, ""),
	}
	for i, s := range all {
		for k, u := range all {
			if same := wit.Same(s, cloned(u)); same != (i == k) {
				t.Errorf("%v and %v: %v", s, u, same)
			}
		}
	}
	if !wit.Same(api.Trace{}, api.Trace{Init: []api.Tri{}, In: [][]api.Tri{}}) || !wit.Same(api.Trace{In: [][]api.Tri{nil, {}}}, api.Trace{In: [][]api.Tri{{}, nil}}) {
		t.Error("lists without elements")
	}
}

// P10.1: the text of a trace, of which no model is asked.
func TestPrint(t *testing.T) {
	long := strings.Repeat("01xx1", 1000)
	for _, x := range []struct {
		w    api.Trace
		want string
	}{
		{trace(0, "", "1"), "1\nb0\n\n1\n.\n"}, {trace(0, "", ""), "1\nb0\n\n\n.\n"}, {trace(7, "01x", "x1", "00"), "1\nb7\n01x\nx1\n00\n.\n"}, {trace(0, "x", "", "0"), "1\nb0\nx\n\n0\n.\n"},
		// Rows of any length, each another one's.
		{trace(10, "", "0", "", "01x", "x"), "1\nb10\n\n0\n\n01x\nx\n.\n"}, {trace(0, long, long+"1", long+"0"), "1\nb0\n" + long + "\n" + long + "1\n" + long + "0\n.\n"},
		{api.Trace{Init: []api.Tri{}, In: [][]api.Tri{{}, nil}}, "1\nb0\n\n\n\n.\n"},
		{trace(1999, "1", "0"), "1\nb1999\n1\n0\n.\n"}, {trace(math.MaxInt, "1", "0"), "1\nb" + strconv.Itoa(math.MaxInt) + "\n1\n0\n.\n"},
		{trace(0, "1", repeat("0x", 200)...), "1\nb0\n1\n" + strings.Repeat("0x\n", 200) + ".\n"},
		// As long as a text may not be, but a print may.
		{trace(0, "", repeat(long, 21)...), "1\nb0\n\n" + strings.Repeat(long+"\n", 21) + ".\n"},
	} {
		if s, e := wit.Print(x.w); s != x.want || e != api.OK {
			t.Errorf("%.60v: %.60q, %d; not %.60q", x.w, s, e, x.want)
		}
	}
}

// P10.1: what has no text.
func TestPrintWrong(t *testing.T) {
	for _, w := range []api.Trace{
		{}, trace(0, "01"), trace(-1, "01", "x"), trace(math.MinInt, "01", "x"), {Init: row("0"), In: [][]api.Tri{}},
		trace(0, "", repeat("1", 201)...), trace(0, "", repeat("", 201)...), trace(0, "", repeat("", 5000)...),
		trace(0, "?", "1"), trace(0, "!", "1"), trace(0, "01?", "1"), trace(0, "?01", "1"), trace(0, "01", "?"), trace(0, "01", "!"), trace(0, "01", "1", "x?"), trace(0, "01", "1?", "x1"), trace(0, "01", "1", "x1", "0!0"),
		trace(-1, "?"),
	} {
		if s, e := wit.Print(w); s != "" || e != api.ErrArg {
			t.Errorf("%.60v: %.60q, %d", w, s, e)
		}
	}
	for x := range 256 {
		for _, w := range []api.Trace{{Init: []api.Tri{1, api.Tri(x)}, In: [][]api.Tri{{0}}}, {In: [][]api.Tri{{0}, {api.Tri(x)}}}} {
			if s, e := wit.Print(w); (e == api.OK) != (x <= 2) || (s == "") != (x > 2) {
				t.Errorf("of %d: %q, %d", x, s, e)
			}
		}
	}
}
