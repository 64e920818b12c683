package aig_test

import (
	"math/big"
	"math/rand"
	"regexp"
	"strconv"
	"strings"
	"testing"
	"unicode/utf8"

	"vidimus/aig"
	"vidimus/api"
)

// checkWrong holds that a text is no model's.
func checkWrong(t *testing.T, s string, at int, e api.Errno) {
	t.Helper()
	a, gotAt, gotE := aig.Parse([]byte(s))
	if !aig.Same(a, api.Aig{}) || gotAt != at || gotE != e {
		t.Errorf("%.60q: %.60v, %d, %d; not %d, %d", s, a, gotAt, gotE, at, e)
	}
}

// textCase is a text that is wrong at a place.
type textCase struct {
	s  string
	at int
}

func checkCases(t *testing.T, e api.Errno, cases ...textCase) {
	t.Helper()
	for _, x := range cases {
		checkWrong(t, x.s, x.at, e)
	}
}

// P6.2: the first line's words, each wrong where it begins.
func TestParseHeadForm(t *testing.T) {
	checkCases(t, api.ErrForm, []textCase{
		{"", 0}, {"a", 0}, {"aag", 0}, {"aag\n", 0}, {"aag0 0 0 0 0 0 0\n", 0}, {" aag 0 0 0 0 0 0 0\n", 0}, {"aig 0 0 0 0 0 0 0\n", 0}, {"AAG 0 0 0 0 0 0 0\n", 0}, {"aag\t0 0 0 0 0 0 0\n", 0}, {"\n", 0}, {"aagx 0", 0},
		{"aag ", 4}, {"aag \n", 4}, {"aag  0 0 0 0 0 0 0\n", 4}, {"aag x", 4}, {"aag -1 0 0 0 0 0 0\n", 4}, {"aag 00 0 0 0 0 0 0\n", 4}, {"aag +0 0 0 0 0 0 0\n", 4}, {"aag 020001 0\n", 4},
		{"aag 0", 5}, {"aag 0\n", 5}, {"aag 0\t0 0 0 0 0 0\n", 5}, {"aag 0x", 5}, {"aag 0 ", 6}, {"aag 0  0 0 0 0 0\n", 6}, {"aag 0 01 0 0 0 0 0\n", 6}, {"aag 0 \n", 6}, {"aag 0 -0 0 0 0 0 0\n", 6},
		{"aag 0 0", 7}, {"aag 0 0\n", 7}, {"aag 0 0 ", 8}, {"aag 0 0 00", 8}, {"aag 0 0 0", 9}, {"aag 0 0 0x", 9}, {"aag 0 0 0 ", 10}, {"aag 0 0 0 x", 10}, {"aag 0 0 0 0", 11}, {"aag 0 0 0 0\n", 11},
		{"aag 0 0 0 0 ", 12}, {"aag 0 0 0 0 -1 0 0\n", 12}, {"aag 0 0 0 0 0", 13}, {"aag 0 0 0 0 0\n", 13}, {"aag 0 0 0 0 0 ", 14}, {"aag 0 0 0 0 0 \n", 14}, {"aag 0 0 0 0 0 0", 15}, {"aag 0 0 0 0 0 0\n", 15},
		{"aag 0 0 0 0 0 0 ", 16}, {"aag 0 0 0 0 0 0 \n", 16}, {"aag 0 0 0 0 0 0 x\n", 16}, {"aag 0 0 0 0 0 0 0", 17}, {"aag 0 0 0 0 0 0 0 ", 17}, {"aag 0 0 0 0 0 0 0 \n", 17}, {"aag 0 0 0 0 0 0 0 0\n", 17}, {"aag 0 0 0 0 0 0 0\r\n", 17},
	}...)
}

// P6.2: numbers of the first line, each at most what it may be.
func TestParseHeadLarge(t *testing.T) {
	for place := range 7 {
		most, rest := api.MaxRow, []string{"0", "0", "0", "0", "0", "0", "0"}
		if place <= 2 || place == 4 {
			most = api.MaxVar
		}
		at := 4 + 2*place
		for _, n := range []string{strconv.Itoa(most + 1), "2147483648", "4294967296", "18446744073709551616", strings.Repeat("9", 300)} {
			rest[place] = n
			s := "aag " + strings.Join(rest, " ") + "\n"
			checkWrong(t, s, at, api.ErrLarge)
			checkWrong(t, s[:at+len(n)], at, api.ErrLarge)
			checkWrong(t, s[:at+len(n)]+"x", at, api.ErrLarge)
		}
		rest[place] = strconv.Itoa(most)
		s := "aag " + strings.Join(rest, " ") + "\n"
		if place == 0 || place == 1 || place == 2 || place == 4 {
			checkWrong(t, s, 4, api.ErrForm)
		} else {
			checkWrong(t, s, len(s), api.ErrForm)
		}
	}
}

// P6.2: V isn't I, latches and gates together: told where it stands, behind the first line.
func TestParseVars(t *testing.T) {
	checkCases(t, api.ErrForm, []textCase{
		{"aag 1 0 0 0 0 0 0\n", 4}, {"aag 0 1 0 0 0 0 0\n2\n", 4}, {"aag 0 0 1 0 0 0 0\n2 0 0\n", 4}, {"aag 0 0 0 0 1 0 0\n2 0 0\n", 4}, {"aag 1 0 0 1 0 0 0\n0\n", 4}, {"aag 1 0 0 0 0 1 0\n0\n", 4}, {"aag 1 0 0 0 0 0 1\n0\n", 4},
		{"aag 2 1 1 0 1 0 0\n2\n4 0 0\n6 0 0\n", 4}, {"aag 4 1 1 0 1 0 0\n2\n4 0 0\n6 0 0\n", 4}, {"aag 20000 20000 1 0 0 0 0\n", 4}, {"aag 20000 20000 20000 0 20000 0 0\n", 4}, {"aag 1 0 0 0 0 0 0\nx", 4},
		// Something else that is wrong in the first line is read ahead of that.
		{"aag 1 0 0 0 0 0 0", 17}, {"aag 1 0 0 0 0 0 0 \n", 17}, {"aag 1 0 0 0 0 0\n", 15}, {"aag 1 0 x", 8}, {"aag 9 0 0 0 0 0 \n", 16},
		// What is read is the first input, and so on.
		{"aag 20000 20000 0 0 0 0 0\n", 26}, {"aag 20000 0 20000 0 0 0 0\n", 26}, {"aag 20000 0 0 0 20000 0 0\n", 26}, {"aag 20000 1 19998 0 1 0 0\n2\n", 28},
	}...)
	checkWrong(t, "aag 1 0 0 0 0 0 2001\n", 16, api.ErrLarge)
	checkWrong(t, "aag 20000 20001 0 0 0 0 0\n", 10, api.ErrLarge)
}

// P6.2: of each input its line, with its end, is one word.
func TestParseInputs(t *testing.T) {
	const one, two = "aag 1 1 0 0 0 0 0\n", "aag 2 2 0 0 0 0 0\n"
	for _, s := range []string{"", "2", "2 ", "2 \n", "2\r\n", "4\n", "3\n", "0\n", "1\n", "02\n", " 2\n", "22\n", "2x\n", "x", "\n", "99999\n", "-2\n", "i0 x\n"} {
		checkWrong(t, one+s, 18, api.ErrForm)
		checkWrong(t, two+s, 18, api.ErrForm)
	}
	checkCases(t, api.ErrForm, []textCase{{two + "2\n", 20}, {two + "2\n4", 20}, {two + "2\n2\n", 20}, {two + "2\n5\n", 20}, {two + "2\n6\n", 20}, {two + "4\n2\n", 18}, {two + "2\n4\n6\n", 22}, {one + "2\n4\n", 20}}...)
}

// P6.2: a latch's literal, Next, Reset.
func TestParseLatches(t *testing.T) {
	const one, second = "aag 1 0 1 0 0 0 0\n", "aag 3 1 2 0 0 0 0\n2\n4 0 0\n"
	checkCases(t, api.ErrForm, []textCase{
		{one, 18}, {one + "2", 18}, {one + "2\n", 18}, {one + "4 0 0\n", 18}, {one + "3 0 0\n", 18}, {one + "0 0 0\n", 18}, {one + "02 0 0\n", 18}, {one + " 2 0 0\n", 18}, {one + "22 0 0\n", 18}, {one + "99999 0 0\n", 18}, {one + "x", 18},
		{one + "2 ", 20}, {one + "2 \n", 20}, {one + "2  0 0\n", 20}, {one + "2 -1 0\n", 20}, {one + "2 01 0\n", 20}, {one + "2 x 0\n", 20},
		{one + "2 0", 21}, {one + "2 0\n", 21}, {one + "2 0x0\n", 21}, {one + "2 0 ", 22}, {one + "2 0 \n", 22}, {one + "2 0  0\n", 22}, {one + "2 0 -1\n", 22}, {one + "2 0 00\n", 22}, {one + "2 0 x\n", 22},
		{one + "2 0 0", 23}, {one + "2 0 0 \n", 23}, {one + "2 0 0 0\n", 23}, {one + "2 0 0x", 23}, {one + "2 0 0\r\n", 23},
		// A Reset that may not be is told behind its line's end.
		{one + "2 0 3\n", 22}, {one + "2 3 3\n", 22}, {one + "2 0 3", 23}, {one + "2 0 3 \n", 23}, {one + "2 0 3x\n", 23}, {one + "2 0 3\nx", 22},
		{second, 26}, {second + "4 0 0\n", 26}, {second + "2 0 0\n", 26}, {second + "8 0 0\n", 26}, {second + "6 0 ", 30}, {second + "6 0 2\n", 30}, {second + "6 0 3\n", 30}, {second + "6 0 4\n", 30}, {second + "6 0 5\n", 30}, {second + "6 0 7\n", 30}, {second + "6 0 4", 31}, {second + "6 7 0\n6 0 0\n", 32},
		{"aag 3 1 2 0 0 0 0\n2\n4 0 6\n6 0 0\n", 24}, {"aag 3 1 2 0 0 0 0\n2\n4 0 2\nx", 24}, {"aag 3 1 2 0 0 0 0\n2\n4 0 5\n6 0 0\n", 24},
	}...)
	checkCases(t, api.ErrLarge, []textCase{
		{one + "2 4 0\n", 20}, {one + "2 4", 20}, {one + "2 4x", 20}, {one + "2 99999999999999999999 0\n", 20}, {one + "2 0 4\n", 22}, {one + "2 0 4", 22}, {one + "2 0 4x", 22}, {one + "2 0 18446744073709551616\n", 22}, {one + "2 0 2147483650\n", 22},
		{second + "6 8 0\n", 28}, {second + "6 0 8\n", 30}, {second + "6 7 8\n", 30},
	}...)
}

// P6.2: outputs, bads and constraints, by their lines.
func TestParseLiterals(t *testing.T) {
	for _, h := range []string{"aag 0 0 0 1 0 0 0\n", "aag 0 0 0 0 0 1 0\n", "aag 0 0 0 0 0 0 1\n"} {
		checkCases(t, api.ErrForm, []textCase{
			{h, 18}, {h + "\n", 18}, {h + "x\n", 18}, {h + "-1\n", 18}, {h + " 1\n", 18}, {h + "01\n", 18}, {h + "1", 19}, {h + "1 \n", 19}, {h + "1x", 19}, {h + "1\r\n", 19}, {h + "1\n\n", 20}, {h + "1\n0\n", 20},
		}...)
		checkCases(t, api.ErrLarge, []textCase{{h + "2\n", 18}, {h + "2", 18}, {h + "2x", 18}, {h + "10\n", 18}, {h + strings.Repeat("9", 40) + "\n", 18}}...)
	}
	for _, h := range []string{"aag 4 4 0 2 0 0 0\n2\n4\n6\n8\n", "aag 4 4 0 0 0 2 0\n2\n4\n6\n8\n", "aag 4 4 0 0 0 0 2\n2\n4\n6\n8\n"} {
		checkCases(t, api.ErrLarge, []textCase{{h + "10\n9\n", 26}, {h + "9\n10\n", 28}, {h + "9\n10", 28}}...)
		checkCases(t, api.ErrForm, []textCase{{h + "9\n", 28}, {h + "9\n9", 29}, {h + "9\n9 ", 29}}...)
	}
	// Outputs stand ahead of bads, these ahead of constraints, and these ahead of gates.
	checkWrong(t, "aag 1 0 0 1 1 1 1\n0\n1\n4\n2 0 0\n", 22, api.ErrLarge)
	checkWrong(t, "aag 1 0 0 1 1 1 1\n0\n1\n2 0 0\n2\n", 23, api.ErrForm)
}

// P6.2: a gate's literal, A, B.
func TestParseGates(t *testing.T) {
	const one, second = "aag 1 0 0 0 1 0 0\n", "aag 4 1 1 0 2 0 0\n2\n4 0 0\n6 5 0\n"
	checkCases(t, api.ErrForm, []textCase{
		{one, 18}, {one + "2", 18}, {one + "2\n", 18}, {one + "4 0 0\n", 18}, {one + "3 0 0\n", 18}, {one + "02 0 0\n", 18}, {one + " 2 0 0\n", 18}, {one + "22 0 0\n", 18}, {one + "99999 0 0\n", 18}, {one + "x", 18},
		{one + "2 ", 20}, {one + "2 \n", 20}, {one + "2  0 0\n", 20}, {one + "2 -1 0\n", 20}, {one + "2 01 0\n", 20}, {one + "2 x 0\n", 20},
		{one + "2 0", 21}, {one + "2 0\n", 21}, {one + "2 0x0\n", 21}, {one + "2 0 ", 22}, {one + "2 0 \n", 22}, {one + "2 0  0\n", 22}, {one + "2 0 -1\n", 22}, {one + "2 0 00\n", 22}, {one + "2 0 x\n", 22},
		{one + "2 0 0", 23}, {one + "2 0 0 \n", 23}, {one + "2 0 0 0\n", 23}, {one + "2 0 0x", 23}, {one + "2 0 0\r\n", 23}, {one + "2 0 0\n4 0 0\n", 24},
		{second, 32}, {second + "6 0 0\n", 32}, {second + "10 0 0\n", 32}, {second + "8 7", 35}, {second + "8 7 ", 36}, {second + "8 7 7", 37},
	}...)
	checkCases(t, api.ErrLarge, []textCase{
		{one + "2 2 0\n", 20}, {one + "2 2", 20}, {one + "2 3 0\n", 20}, {one + "2 4 0\n", 20}, {one + "2 2x", 20}, {one + "2 99999999999999999999 0\n", 20}, {one + "2 0 1\n", 22}, {one + "2 0 1", 22}, {one + "2 1 2\n", 22}, {one + "2 1 2x", 22}, {one + "2 0 18446744073709551616\n", 22},
		{second + "8 8 0\n", 34}, {second + "8 9 0\n", 34}, {second + "8 6 7\n", 36}, {second + "8 0 1\n", 36}, {"aag 2 0 0 0 2 0 0\n2 2 0\n4 0 0\n", 20}, {"aag 2 0 0 0 2 0 0\n2 3 0\n4 0 0\n", 20},
	}...)
	for _, s := range []string{"8 7 7\n", "8 7 0\n", "8 0 0\n", "8 6 6\n"} {
		if _, at, e := aig.Parse([]byte(second + s)); at != 38 || e != api.OK {
			t.Errorf("%q: %d, %d", s, at, e)
		}
	}
}

// P6.2: names, and what is behind the last line.
func TestParseNames(t *testing.T) {
	const h = "aag 4 2 2 2 0 2 2\n2\n4\n6 0 0\n8 0 0\n0\n0\n0\n0\n0\n0\n"
	const at = len(h)
	if at != 46 {
		t.Fatal(at)
	}
	for _, s := range []string{"\n", " ", "x", "a0 x\n", "I0 x\n", "0 x\n", "\x00", "\xff", "\n\n", "g0 x\n", "é"} {
		checkWrong(t, h+s, at, api.ErrForm)
		checkWrong(t, h+"i0 x\n"+s, at+5, api.ErrForm)
	}
	for _, kind := range []string{"i", "l", "o", "b", "c"} {
		k := h + kind
		checkCases(t, api.ErrForm, []textCase{
			{k, at + 1}, {k + "\n", at + 1}, {k + " 0 x\n", at + 1}, {k + "x", at + 1}, {k + "-1 x\n", at + 1}, {k + "00 x\n", at + 1}, {k + "01 x\n", at + 1},
			{k + "0", at + 2}, {k + "0\n", at + 2}, {k + "0x\n", at + 2}, {k + "0\tx\n", at + 2}, {k + "0 ", at + 3}, {k + "0 \n", at + 3}, {k + "0 \x1f\n", at + 3}, {k + "0 a\tb\n", at + 3}, {k + "0 a\x7f\n", at + 3}, {k + "0 \xff\n", at + 3}, {k + "0 a\r\n", at + 3},
			{k + "0 " + strings.Repeat("é", 41) + "\n", at + 3}, {k + "0 " + strings.Repeat("a", 41), at + 3}, {k + "0 x", at + 4}, {k + "0 " + strings.Repeat("é", 40), at + 83},
			{k + "0 x\n\n", at + 5}, {k + "0 x\n ", at + 5}, {k + "0 x\n" + kind, at + 6},
			{k + "0 x\n" + kind + "0 x\n", at + 5}, {k + "1 x\n" + kind + "0 x\n", at + 5}, {k + "1 x\n" + kind + "1 y\n", at + 5},
			// That a name isn't behind the one ahead is told behind its line's end.
			{k + "1 x\n" + kind + "0 x", at + 9}, {k + "1 x\n" + kind + "0 ", at + 8}, {k + "1 x\n" + kind + "0", at + 7}, {k + "1 x\n" + kind + "0 x\nq", at + 5},
		}...)
		checkCases(t, api.ErrLarge, []textCase{{k + "2 x\n", at + 1}, {k + "2", at + 1}, {k + "2x", at + 1}, {k + "10 x\n", at + 1}, {k + "99999999999999999999 x\n", at + 1}, {k + "0 x\n" + kind + "2 x\n", at + 6}, {k + "1 x\n" + kind + "2 x\n", at + 6}}...)
		none := "aag 0 0 0 0 0 0 0\n" + kind
		checkCases(t, api.ErrLarge, []textCase{{none + "0 x\n", 19}, {none + "0", 19}, {none + "1 x\n", 19}}...)
		checkCases(t, api.ErrForm, []textCase{{none, 19}, {none + " ", 19}, {none + "00", 19}, {none + "-1 x\n", 19}}...)
	}
}

// P6.2: names of one kind behind those of another, each way round.
func TestParseNameKinds(t *testing.T) {
	const h, kinds = "aag 4 2 2 2 0 2 2\n2\n4\n6 0 0\n8 0 0\n0\n0\n0\n0\n0\n0\n", "ilobc"
	for i := range kinds {
		for k := range kinds {
			s := h + kinds[i:i+1] + "1 x\n" + kinds[k:k+1] + "0 x\n"
			if i >= k {
				checkWrong(t, s, len(h)+5, api.ErrForm)
			} else if a, at, e := aig.Parse([]byte(s)); at != len(s) || e != api.OK || len(a.Names) != 2 || a.Names[1].Kind != kinds[k] {
				t.Errorf("%q: %d, %d", s, at, e)
			}
		}
	}
}

// P6.2: one name too many is wrong where its line begins, whatever is behind that; what begins no name is no name too many.
func TestParseTooManyNames(t *testing.T) {
	a := api.Aig{I: api.MaxRow + 1, Outs: []int{0}, Names: names('i', api.MaxRow)}
	full, e := aig.Print(a)
	if b, at, e2 := aig.Parse([]byte(full)); e != api.OK || e2 != api.OK || at != len(full) || !aig.Same(a, b) {
		t.Errorf("as many as there may be: %d, %d, %d", at, e, e2)
	}
	for _, s := range []string{"i2000 x\n", "i2000 x", "i2000", "i", "i0 x\n", "i2001 x\n", "o0 x\n", "o0 x\n\n", "c0 x\n", "ix", "o0 x\no0 x\n"} {
		checkWrong(t, full+s, len(full), api.ErrLarge)
	}
	for _, s := range []string{"x", "\n", " ", "2000 x\n", "I0 x\n"} {
		checkWrong(t, full+s, len(full), api.ErrForm)
	}
	// The last one that there may be is asked as any other one.
	last := full[:len(full)-len("i1999 x\n")]
	checkCases(t, api.ErrForm, []textCase{{last + "i1998 x\n", len(last)}, {last + "i1999 \n", len(last) + 6}, {last + "i1999 x", len(last) + 7}, {last + "x", len(last)}}...)
	checkWrong(t, last+"i2001 x\n", len(last)+1, api.ErrLarge)
}

// P6.2: MaxBytes and one more.
func TestParseMaxBytes(t *testing.T) {
	a := api.Aig{I: 16000}
	s, _ := aig.Print(a)
	for i := 0; len(s) <= api.MaxBytes-60; i++ {
		a.Names = append(a.Names, api.Name{Kind: 'i', At: i, S: strings.Repeat("n", 36)})
		s, _ = aig.Print(a)
	}
	last := api.Name{Kind: 'i', At: len(a.Names)}
	if room := api.MaxBytes - len(s) - len("i"+strconv.Itoa(last.At)+" \n"); room > api.MaxName {
		last.S = strings.Repeat("é", room-api.MaxName) + strings.Repeat("n", 2*api.MaxName-room)
	} else {
		last.S = strings.Repeat("n", room)
	}
	a.Names = append(a.Names, last)
	s, e := aig.Print(a)
	if len(s) != api.MaxBytes || e != api.OK {
		t.Fatal(len(s), e)
	}
	if b, at, e := aig.Parse([]byte(s)); at != len(s) || e != api.OK || !aig.Same(a, b) {
		t.Errorf("%d, %d", at, e)
	}
	checkWrong(t, s[:len(s)-1], len(s)-1, api.ErrForm)
	checkWrong(t, s+"\n", 0, api.ErrLarge)
	checkWrong(t, "x"+s, 0, api.ErrLarge)
	checkWrong(t, strings.Repeat("x", api.MaxBytes), 0, api.ErrForm)
	checkWrong(t, strings.Repeat("x", api.MaxBytes+1), 0, api.ErrLarge)
	checkWrong(t, "aag 0 0 0 0 0 0 0\n"+strings.Repeat("\n", api.MaxBytes-18), 18, api.ErrForm)
}

// P6.3: what is printed and longer than MaxBytes is not parsed.
func TestPrintedTooLong(t *testing.T) {
	s, e := aig.Print(api.Aig{I: api.MaxVar})
	if len(s) <= api.MaxBytes || e != api.OK {
		t.Fatal(len(s), e)
	}
	checkWrong(t, s, 0, api.ErrLarge)
}

// slow is a text that is read by other means: what stands there is cut off by expressions, and numbers have any size. Once something is wrong nothing more is read.
type slow struct {
	s, rest string
	at      int
	e       api.Errno
}

var figuresForm = regexp.MustCompile(`^[0-9]+`)

func (r *slow) fail(at int, e api.Errno) {
	if r.e == api.OK {
		r.at, r.e = at, e
	}
}

func (r *slow) place() int { return len(r.s) - len(r.rest) }

func (r *slow) word(w string) {
	rest, is := strings.CutPrefix(r.rest, w)
	if !is {
		r.fail(r.place(), api.ErrForm)
	}
	r.rest = rest
}

func (r *slow) number(most int) int {
	figures := figuresForm.FindString(r.rest)
	if figures == "" || figures[0] == '0' && figures != "0" {
		r.fail(r.place(), api.ErrForm)
		return 0
	}
	n, _ := new(big.Int).SetString(figures, 10)
	if n.Cmp(big.NewInt(int64(most))) > 0 {
		r.fail(r.place(), api.ErrLarge)
		return 0
	}
	r.rest = r.rest[len(figures):]
	return int(n.Int64())
}

func (r *slow) name() string {
	s, _, _ := strings.Cut(r.rest, "\n")
	wrong := func(c rune) bool { return c < ' ' || c == '\x7f' }
	if n := utf8.RuneCountInString(s); !utf8.ValidString(s) || n < 1 || n > 40 || strings.ContainsFunc(s, wrong) {
		r.fail(r.place(), api.ErrForm)
	}
	r.rest = r.rest[len(s):]
	return s
}

func (r *slow) head() (n [7]int) {
	r.word("aag ")
	vars := r.place()
	for i, most := range []int{20000, 20000, 20000, 2000, 20000, 2000, 2000} {
		if i > 0 {
			r.word(" ")
		}
		n[i] = r.number(most)
	}
	r.word("\n")
	if n[0] != n[1]+n[2]+n[4] {
		r.fail(vars, api.ErrForm)
	}
	return n
}

func (r *slow) names(counts map[byte]int) (out []api.Name) {
	ahead := ""
	for r.e == api.OK && r.rest != "" {
		first, kind := r.place(), r.rest[0]
		many, is := counts[kind]
		if !is {
			r.fail(first, api.ErrForm)
			break
		}
		r.rest = r.rest[1:]
		n := api.Name{Kind: kind, At: r.number(many - 1)}
		r.word(" ")
		n.S = r.name()
		r.word("\n")
		// Texts whose order is that of the names.
		key := strconv.Itoa(strings.Index("ilobc", string(kind))) + strconv.Itoa(100000+n.At)
		if key <= ahead {
			r.fail(first, api.ErrForm)
		}
		ahead, out = key, append(out, n)
	}
	return out
}

// slowly is Parse by other means, of fewer than MaxRow names and MaxBytes bytes.
func slowly(s string) (a api.Aig, at int, e api.Errno) {
	r := &slow{s: s, rest: s}
	n := r.head()
	literal, most := 0, 2*n[0]+1
	for i := 0; i < n[1] && r.e == api.OK; i++ {
		literal += 2
		r.word(strconv.Itoa(literal) + "\n")
	}
	for i := 0; i < n[2] && r.e == api.OK; i++ {
		literal += 2
		r.word(strconv.Itoa(literal) + " ")
		l := api.Latch{Next: r.number(most)}
		r.word(" ")
		here := r.place()
		l.Reset = r.number(most)
		r.word("\n")
		if l.Reset > 1 && l.Reset != literal {
			r.fail(here, api.ErrForm)
		}
		a.L = append(a.L, l)
	}
	for k, row := range []*[]int{&a.Outs, &a.Bad, &a.Con} {
		for i := 0; i < []int{n[3], n[5], n[6]}[k] && r.e == api.OK; i++ {
			*row = append(*row, r.number(most))
			r.word("\n")
		}
	}
	for i := 0; i < n[4] && r.e == api.OK; i++ {
		literal += 2
		r.word(strconv.Itoa(literal) + " ")
		x := r.number(literal - 1)
		r.word(" ")
		a.G = append(a.G, api.And{A: x, B: r.number(x)})
		r.word("\n")
	}
	a.I, a.Names = n[1], r.names(map[byte]int{'i': n[1], 'l': n[2], 'o': n[3], 'b': n[5], 'c': n[6]})
	if r.e != api.OK {
		return api.Aig{}, r.at, r.e
	}
	return a, len(s), api.OK
}

// checkText holds all of P6.2 and P6.3 of one text, and R3: no byte is written.
func checkText(t *testing.T, s string) {
	t.Helper()
	b := []byte(s)
	a, at, e := aig.Parse(b)
	want, wantAt, wantE := slowly(s)
	if at != wantAt || e != wantE || !aig.Same(a, want) {
		t.Fatalf("%q: %v, %d, %d; not %v, %d, %d", s, a, at, e, want, wantAt, wantE)
	}
	if at < 0 || at > len(s) {
		t.Fatalf("%q: %d", s, at)
	}
	if printed, e2 := aig.Print(a); e == api.OK && (printed != s || e2 != api.OK || !aig.Right(a)) {
		t.Fatalf("%q: %v is printed as %q", s, a, printed)
	}
	if string(b) != s {
		t.Fatalf("%q became %q", s, b)
	}
}

// P6.2, P6.3: each text that differs in one place from a right one: cut off there, or a byte changed, left out, or put in.
func TestParseNearTexts(t *testing.T) {
	for s := range rightModels() {
		if len(s) > 500 {
			continue
		}
		for at := range len(s) + 1 {
			checkText(t, s[:at])
			if at < len(s) {
				checkText(t, s[:at]+s[at+1:])
			}
			for _, p := range []string{"0", "1", "2", "3", "9", "-", " ", "\n", "\r", "a", "i", "l", "o", "b", "c", "x", "\x00", "\xff", "é", "\x7f", "i0 x\n", "2\n"} {
				checkText(t, s[:at]+p+s[at:])
				if at < len(s) {
					checkText(t, s[:at]+p+s[at+1:])
				}
			}
		}
	}
}

// P6.2: a text that is cut off is wrong where what is missing begins; where a name's line may begin nothing is missing.
func TestParseEndsEarly(t *testing.T) {
	s := "aag 3 1 1 1 1 0 0\n2\n4 6 0\n7\n6 5 0\ni0 né\nl0 x\n"
	places := []int{
		0, 0, 0, 0, 4, 5, 6, 7, 8, 9, 10, 11, 12, 13, 14, 15, 16, 17,
		18, 18, 20, 20, 22, 23, 24, 25, 26, 27, 28, 28, 30, 31, 32, 33, -1, 35, 36, 37, 38, 37, 40, -1, 42, 43, 44, 45,
	}
	if len(places) != len(s) {
		t.Fatalf("a place of each early end: %d of %d", len(places), len(s))
	}
	for end, at := range places {
		if at >= 0 {
			checkWrong(t, s[:end], at, api.ErrForm)
		} else if a, at, e := aig.Parse([]byte(s[:end])); at != end || e != api.OK || aig.Vars(a) != 3 {
			t.Errorf("%q: %d, %d", s[:end], at, e)
		}
	}
}

// someModel is a right model, by chance.
func someModel(r *rand.Rand) api.Aig {
	size := []int{3, 12, 60}[r.Intn(3)]
	a := api.Aig{I: r.Intn(size), L: make([]api.Latch, r.Intn(size)), G: make([]api.And, r.Intn(size))}
	last := 2*(a.I+len(a.L)+len(a.G)) + 1
	for i := range a.L {
		a.L[i] = api.Latch{Next: r.Intn(last + 1), Reset: []int{0, 1, 2 * (a.I + 1 + i)}[r.Intn(3)]}
	}
	for i := range a.G {
		x := r.Intn(2 * (a.I + len(a.L) + 1 + i))
		a.G[i] = api.And{A: x, B: r.Intn(x + 1)}
	}
	for _, row := range []*[]int{&a.Outs, &a.Bad, &a.Con} {
		for range r.Intn(size) {
			*row = append(*row, r.Intn(last+1))
		}
	}
	for i, many := range []int{a.I, len(a.L), len(a.Outs), len(a.Bad), len(a.Con)} {
		for at := range many {
			if r.Intn(2) == 0 {
				a.Names = append(a.Names, api.Name{Kind: "ilobc"[i], At: at, S: []string{"x", " y ", "né", "i0 x", "12", "日本"}[r.Intn(6)]})
			}
		}
	}
	return a
}

// P6.3: what is printed is parsed, with a byte of it changed too, and nothing that was handed in is changed.
func TestPrintedIsParsed(t *testing.T) {
	r := rand.New(rand.NewSource(61))
	for range 2000 {
		a := someModel(r)
		before := cloned(a)
		s, e := aig.Print(a)
		b, at, e2 := aig.Parse([]byte(s))
		if e != api.OK || e2 != api.OK || at != len(s) || !aig.Same(a, b) || !aig.Right(a) || !aig.Right(b) {
			t.Fatalf("%v: %d, %v, %d, %d", a, e, b, at, e2)
		}
		if !aig.Same(a, before) {
			t.Fatalf("%v became %v", before, a)
		}
		checkText(t, s)
		for range 20 {
			near := []byte(s)
			near[r.Intn(len(near))] = "0123456789 \nilobcx"[r.Intn(18)]
			checkText(t, string(near))
		}
	}
}

// R3: what is parsed shares no memory with the text, nor lists with each other.
func TestParsedStandsAlone(t *testing.T) {
	b := []byte(wholeText)
	a, _, _ := aig.Parse(b)
	clear(b)
	if !aig.Same(a, whole()) {
		t.Error("the text is kept")
	}
	want := whole()
	a.Outs, want.Outs = append(a.Outs, 7, 7, 7), append(want.Outs, 7, 7, 7)
	a.Bad, want.Bad = append(a.Bad, 8, 8, 8), append(want.Bad, 8, 8, 8)
	a.Con, want.Con = append(a.Con, 9, 9, 9), append(want.Con, 9, 9, 9)
	if !aig.Same(a, want) {
		t.Error(a)
	}
}
