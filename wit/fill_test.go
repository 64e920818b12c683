package wit_test

import (
	"slices"
	"strings"
	"testing"

	"vidimus/api"
	"vidimus/wit"
)

// says are what is said of holes, by figures.
func says(s string) []bool {
	var out []bool
	for i := range len(s) {
		out = append(out, s[i] == '1')
	}
	return out
}

// P10.3: how many holes there are, and whether there is none.
func TestHoles(t *testing.T) {
	for _, x := range []struct {
		w     api.Trace
		holes int
	}{
		{api.Trace{}, 0}, {trace(2, "", ""), 0}, {trace(0, "01", "10", "00"), 0}, {trace(2, "0"), 0}, {trace(0, "", "1"), 0},
		{trace(0, "x"), 1}, {trace(0, "", "x"), 1}, {trace(0, "0x1", "0"), 1}, {trace(0, "0", "0", "1x"), 1}, {trace(0, "", "", "", "x", ""), 1},
		{trace(0, "xx", "0x"), 3}, {trace(0, "x1x", "x0", "xx", "", "x"), 6}, {trace(0, strings.Repeat("x", 3000), repeat("x0x", 300)...), 3600},
		// What is no value is no hole.
		{trace(0, "?!", "!?"), 0}, {trace(0, "?x", "x!"), 2}, {trace(-1, "x", "x"), 2},
	} {
		if holes := wit.Holes(x.w); holes != x.holes {
			t.Errorf("%.60v: %d, not %d", x.w, holes, x.holes)
		}
		if total := wit.Total(x.w); total != (x.holes == 0) {
			t.Errorf("%.60v: %v", x.w, total)
		}
	}
}

// P10.3: holes are filled one by one, through Init, then frame by frame.
func TestFill(t *testing.T) {
	for _, x := range []struct {
		name string
		w    api.Trace
		m    string
		want api.Trace
	}{
		{"no hole", trace(3, "01", "10", "11"), "0101", trace(3, "01", "10", "11")}, {"no hole, of none", trace(3, "01", "10"), "", trace(3, "01", "10")}, {"nothing", api.Trace{}, "01", api.Trace{}}, {"nothing, of none", api.Trace{}, "", api.Trace{}},
		{"in Init", trace(0, "x01x", "01"), "10", trace(0, "1010", "01")}, {"in Init", trace(0, "x01x", "01"), "01", trace(0, "0011", "01")}, {"in Init alone", trace(0, "xx"), "01", trace(0, "01")},
		{"in frames", trace(0, "01", "x0", "1x", "xx"), "1001", trace(0, "01", "10", "10", "01")}, {"in frames alone", trace(0, "", "x", "x"), "01", trace(0, "", "0", "1")},
		{"in both", trace(5, "0x", "x1", "0x"), "100", trace(5, "01", "01", "00")}, {"in both", trace(5, "0x", "x1", "0x"), "011", trace(5, "00", "11", "01")}, {"in both", trace(-7, "x", "", "x"), "10", trace(-7, "1", "", "0")},
		{"too few: one", trace(0, "x", "xx", "x"), "1", trace(0, "1", "xx", "x")}, {"too few: two", trace(0, "x", "xx", "x"), "10", trace(0, "1", "0x", "x")}, {"too few: three", trace(0, "x", "xx", "x"), "101", trace(0, "1", "01", "x")},
		{"too few in Init", trace(0, "xx", "x"), "0", trace(0, "0x", "x")}, {"as many", trace(0, "x", "xx", "x"), "1010", trace(0, "1", "01", "0")},
		{"too many", trace(0, "x", "xx", "x"), "10101", trace(0, "1", "01", "0")}, {"too many", trace(0, "x", "xx", "x"), "1010" + strings.Repeat("1", 5000), trace(0, "1", "01", "0")},
		{"of none", trace(0, "x0", "xx", "1"), "", trace(0, "x0", "xx", "1")},
		{"what is no value", trace(0, "?x", "x!"), "10", trace(0, "?1", "0!")},
	} {
		if w := wit.Fill(x.w, says(x.m)); !alike(w, x.want) {
			t.Errorf("%s: %v with %q: %v, not %v", x.name, x.w, x.m, w, x.want)
		}
	}
	if w := wit.Fill(trace(0, "x", "x"), []bool{}); !alike(w, trace(0, "x", "x")) {
		t.Errorf("of an empty list: %v", w)
	}
	if w := wit.Fill(trace(0, "x", "x"), says("111")[:1]); !alike(w, trace(0, "1", "x")) {
		t.Errorf("what lies behind the end says nothing: %v", w)
	}
}

// P10.3: all traces of a few rows, and all that may be said of their holes, by their texts: x by x becomes a figure.
func TestFillAll(t *testing.T) {
	for _, s := range allRows("0x", 5) {
		for cut := range len(s) + 1 {
			w := trace(0, s[:cut], s[cut:len(s)-(len(s)-cut)/2], "", s[len(s)-(len(s)-cut)/2:])
			before, e := wit.Print(w)
			if e != api.OK {
				t.Fatal(e)
			}
			if wit.Holes(w) != strings.Count(before, "x") {
				t.Fatalf("%q: %d", before, wit.Holes(w))
			}
			for _, m := range allRows("01", 6) {
				want := before
				for i := range len(m) {
					want = strings.Replace(want, "x", m[i:i+1], 1)
				}
				filled := wit.Fill(w, says(m))
				if got, e := wit.Print(filled); got != want || e != api.OK {
					t.Fatalf("%q with %q: %q, not %q", before, m, got, want)
				}
				if total := wit.Total(filled); total != (len(m) >= strings.Count(before, "x")) {
					t.Fatalf("%q with %q: %v", before, m, total)
				}
			}
		}
	}
}

// R3, P10.3: one row that stands at several places is filled at each by itself, and stays what it was.
func TestFillOfOneRow(t *testing.T) {
	l := row("x0x")
	w := wit.Fill(api.Trace{Init: l, In: [][]api.Tri{l, l, l[1:], l[:0]}}, says("1001110"))
	if !alike(w, trace(0, "100", "001", "101", "00", "")) || !slices.Equal(l, row("x0x")) {
		t.Errorf("%v of %v", w, l)
	}
}
