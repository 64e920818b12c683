package line_test

import (
	"slices"
	"strings"
	"testing"

	"vidimus/api"
	"vidimus/line"
)

// P3.1, P5.1: a line's literals, and what ends them.
func TestTell(t *testing.T) {
	var out strings.Builder
	line.Tell(&out)
	line.Tell(&out, 1)
	line.Tell(&out, -2, 10, 2)
	if out.String() != "0\n1 0\n-2 10 2 0\n" {
		t.Errorf("%q", out.String())
	}
}

// P3.2, P5.1: a word stands as a whole, or is wrong where it begins.
func TestBehind(t *testing.T) {
	b := []byte("v 0\n")
	for _, x := range []struct {
		at   int
		word string
		next int
		e    api.Errno
	}{
		{0, "v ", 2, api.OK}, {2, line.Last, 4, api.OK}, {1, line.Blank, 2, api.OK}, {3, line.End, 4, api.OK},
		{0, line.Blank, 0, api.ErrForm}, {2, "0\n\n", 2, api.ErrForm}, {4, line.End, 4, api.ErrForm}, {4, "", 4, api.OK},
	} {
		if next, e := line.Behind(b, x.at, x.word); next != x.next || e != x.e {
			t.Errorf("%q at %d: %d, %d", x.word, x.at, next, e)
		}
	}
}

// P3.2, P5.1: a clause's line, at a place, with others ahead of it and behind.
func TestClause(t *testing.T) {
	full := strings.Repeat("1 ", api.MaxLits)
	for _, x := range []struct {
		text  string
		at, n int
		c     []int
		next  int
		e     api.Errno
	}{
		{"0\n", 0, 0, nil, 2, api.OK}, {"1 -2 0\n", 0, 2, []int{1, -2}, 7, api.OK}, {"1 0\n2 0\n0\n", 4, 2, []int{2}, 8, api.OK},
		{full + "0\n", 0, 1, slices.Repeat([]int{1}, api.MaxLits), 2002, api.OK}, {full + "1 0\n", 0, 1, nil, 2000, api.ErrLarge},
		{"1 -2 0\n", 0, 1, nil, 2, api.ErrLarge}, {"1 0\n", 0, 0, nil, 0, api.ErrLarge},
		{"1 0", 0, 1, nil, 3, api.ErrForm}, {"1 0 \n", 0, 1, nil, 3, api.ErrForm}, {"1\n", 0, 1, nil, 1, api.ErrForm}, {"1 ", 0, 1, nil, 2, api.ErrForm},
		{"", 0, 1, nil, 0, api.ErrForm}, {"1 -0\n", 0, 1, nil, 2, api.ErrForm}, {"1 0\n\n", 4, 1, nil, 4, api.ErrForm},
	} {
		c, next, e := line.Clause([]byte(x.text), x.at, x.n)
		if !slices.Equal(c, x.c) || next != x.next || e != x.e {
			t.Errorf("%.40q at %d of %d: %.40v, %d, %d", x.text, x.at, x.n, c, next, e)
		}
	}
}
