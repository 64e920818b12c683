package tern_test

import (
	"slices"
	"strings"
	"testing"

	"vidimus/api"
	"vidimus/tern"
)

// all are the values.
var all = []api.Tri{0, 1, api.X}

// row is one by its text; of an empty text there is no list.
func row(s string) []api.Tri {
	var out []api.Tri
	for i := range len(s) {
		out = append(out, api.Tri(strings.IndexByte("01x", s[i])))
	}
	return out
}

// text is a row's, of which ? is what is no value.
func text(l []api.Tri) string {
	var out strings.Builder
	for _, x := range l {
		out.WriteByte("01x?"[min(x, 3)])
	}
	return out.String()
}

// texts are rows', with a blank between.
func texts(rows ...[]api.Tri) string {
	var out []string
	for _, l := range rows {
		out = append(out, text(l))
	}
	return strings.Join(out, " ")
}

// allRows are all rows of values of a length.
func allRows(n int) [][]api.Tri {
	if n == 0 {
		return [][]api.Tri{nil}
	}
	var out [][]api.Tri
	for _, l := range allRows(n - 1) {
		for _, x := range all {
			out = append(out, append(slices.Clone(l), x))
		}
	}
	return out
}

// P9.1: are all of a row values?
func TestIsTri(t *testing.T) {
	if !tern.IsTri(nil) || !tern.IsTri([]api.Tri{}) {
		t.Error("no values")
	}
	for n := range 5 {
		for _, l := range allRows(n) {
			if !tern.IsTri(l) {
				t.Errorf("%v", l)
			}
			for at := range l {
				for _, x := range []api.Tri{3, 4, 127, 128, 254, 255} {
					wrong := slices.Clone(l)
					wrong[at] = x
					if tern.IsTri(wrong) {
						t.Errorf("%v", wrong)
					}
				}
			}
		}
	}
	for x := range 256 {
		if is := tern.IsTri([]api.Tri{api.Tri(x)}); is != (x <= 2) {
			t.Errorf("%d: %v", x, is)
		}
	}
	if l := []api.Tri{0, 1, 2, 3}; !tern.IsTri(l[:3]) {
		t.Error("what lies behind the end")
	}
}

// P9.1: of 0 1, of 1 0, else X.
func TestNot(t *testing.T) {
	for x := range 256 {
		want := api.X
		switch x {
		case 0:
			want = 1
		case 1:
			want = 0
		}
		if got := tern.Not(api.Tri(x)); got != want {
			t.Errorf("of %d: %d", x, got)
		}
	}
	for _, x := range all {
		if got := tern.Not(tern.Not(x)); got != x {
			t.Errorf("twice, of %d: %d", x, got)
		}
	}
}

// P9.1: 0, if one is 0; else 1, if both are 1; else X.
func TestAnd(t *testing.T) {
	for i, x := range []struct{ x, y, want api.Tri }{
		{0, 0, 0}, {0, 1, 0}, {1, 0, 0}, {0, api.X, 0}, {api.X, 0, 0},
		{1, 1, 1}, {1, api.X, api.X}, {api.X, 1, api.X}, {api.X, api.X, api.X},
	} {
		if got := tern.And(x.x, x.y); got != x.want {
			t.Errorf("%d: of %d and %d: %d", i, x.x, x.y, got)
		}
	}
	// The promise's words tell of what is no value, too.
	for x := range 256 {
		for y := range 256 {
			want := api.X
			if x == 0 || y == 0 {
				want = 0
			} else if x == 1 && y == 1 {
				want = 1
			}
			if got := tern.And(api.Tri(x), api.Tri(y)); got != want {
				t.Errorf("of %d and %d: %d", x, y, got)
			}
		}
	}
}

// P9.1: a row below another one is as long, and the same place by place, or X there.
func TestBelow(t *testing.T) {
	for _, x := range []struct {
		x, y string
		is   bool
	}{
		{"", "", true}, {"0", "0", true}, {"1", "1", true}, {"x", "x", true}, {"0", "x", true}, {"1", "x", true},
		{"0", "1", false}, {"1", "0", false}, {"x", "0", false}, {"x", "1", false},
		{"", "x", false}, {"x", "", false}, {"", "0", false}, {"0", "", false}, {"0", "0x", false}, {"0x", "0", false}, {"xx", "x", false}, {"x", "xx", false},
		{"01x", "xxx", true}, {"01x", "01x", true}, {"01x", "x1x", true}, {"01x", "010", false}, {"01x", "11x", false}, {"01x", "00x", false},
		{"xxx", "01x", false}, {"0101", "x10x", true}, {"0101", "x11x", false}, {"0101", "x1x0", false},
	} {
		if is := tern.Below(row(x.x), row(x.y)); is != x.is {
			t.Errorf("%q below %q: %v", x.x, x.y, is)
		}
	}
	for _, x := range [][2][]api.Tri{{nil, nil}, {nil, {}}, {{}, nil}, {{}, {}}} {
		if !tern.Below(x[0], x[1]) {
			t.Errorf("%v below %v", x[0], x[1])
		}
	}
	for n := range 4 {
		for m := range 4 {
			for _, x := range allRows(n) {
				for _, y := range allRows(m) {
					want := n == m
					for i := range min(n, m) {
						want = want && (x[i] == y[i] || y[i] == api.X)
					}
					if is := tern.Below(x, y); is != want {
						t.Errorf("%s below %s: %v", text(x), text(y), is)
					}
				}
			}
		}
	}
}

// P9.1: Below is an order: each row is below itself, no two below each other, and what is below one is below what that is below.
func TestBelowIsAnOrder(t *testing.T) {
	rows := allRows(3)
	for _, x := range rows {
		if !tern.Below(x, x) {
			t.Errorf("%s below itself", text(x))
		}
		for _, y := range rows {
			if tern.Below(x, y) && tern.Below(y, x) && !slices.Equal(x, y) {
				t.Errorf("%s, %s below each other", text(x), text(y))
			}
			for _, z := range rows {
				if tern.Below(x, y) && tern.Below(y, z) && !tern.Below(x, z) {
					t.Errorf("%s, %s, %s", text(x), text(y), text(z))
				}
			}
		}
	}
}

// P9.1: of each 0, 1 or x.
func TestText(t *testing.T) {
	for _, x := range []struct {
		l    []api.Tri
		want string
	}{
		{nil, ""}, {[]api.Tri{}, ""}, {[]api.Tri{0}, "0"}, {[]api.Tri{1}, "1"}, {[]api.Tri{api.X}, "x"},
		{[]api.Tri{0, 1, api.X}, "01x"}, {[]api.Tri{api.X, api.X, 1, 0, 0}, "xx100"},
		{slices.Repeat([]api.Tri{1, api.X, 0}, 1000), strings.Repeat("1x0", 1000)},
	} {
		if s := tern.Text(x.l); s != x.want {
			t.Errorf("%v: %q", x.l, s)
		}
	}
	for n := range 5 {
		for _, l := range allRows(n) {
			if s := tern.Text(l); s != text(l) || !slices.Equal(row(s), l) {
				t.Errorf("%v: %q", l, s)
			}
		}
	}
	// Of what is no value, too, each has a byte.
	if s := tern.Text([]api.Tri{0, 3, 1, 255}); s != "0x1x" {
		t.Errorf("%q", s)
	}
}
