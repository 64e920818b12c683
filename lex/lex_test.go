package lex_test

import (
	"bytes"
	"math"
	"strings"
	"testing"
	"unicode/utf8"

	"vidimus/api"
	"vidimus/lex"
)

// P1.1: a word stands there, or not; behind it, or at the place.
func TestIs(t *testing.T) {
	for _, x := range []struct {
		b    string
		at   int
		s    string
		next int
		is   bool
	}{
		{"abc", 0, "abc", 3, true},
		{"abc", 1, "b", 2, true},
		{"abc", 2, "c", 3, true},
		{"abc", 1, "c", 1, false},
		{"abc", 1, "bd", 1, false},
		{"abc", 2, "cd", 2, false},
		{"abc", 3, "a", 3, false},
		{"a\xff\x00", 1, "\xff\x00", 3, true},
		{"abc", 0, "", 0, true},
		{"abc", 3, "", 3, true},
		{"", 0, "", 0, true},
		{"", 0, "a", 0, false},
		{"abc", 4, "", 0, false},
		{"abc", -1, "", 0, false},
		{"abc", 4, "a", 0, false},
		{"abc", -1, "a", 0, false},
		{"abc", math.MaxInt, "a", 0, false},
		{"abc", math.MinInt, "a", 0, false},
	} {
		if next, is := lex.Is([]byte(x.b), x.at, x.s); next != x.next || is != x.is {
			t.Errorf("Is(%q, %d, %q): %d %v", x.b, x.at, x.s, next, is)
		}
	}
	if next, is := lex.Is(nil, 0, ""); next != 0 || !is {
		t.Errorf("Is of no bytes: %d %v", next, is)
	}
}

type numberCase struct {
	b             string
	at, most      int
	n, next       int
	e             api.Errno
	signedDiffers bool
}

// numberCases: without - ahead Signed answers as Number does.
func numberCases() []numberCase {
	const large = math.MaxInt
	return []numberCase{
		{b: "429", most: large, n: 429, next: 3},
		{b: "42 9", most: large, n: 42, next: 2},
		{b: "x7y", at: 1, most: 7, n: 7, next: 2},
		{b: "0", most: 0, n: 0, next: 1},
		{b: "0x", most: 9, n: 0, next: 1},
		{b: "10", at: 1, most: 9, n: 0, next: 2},
		{b: "9", most: 9, n: 9, next: 1},
		{b: "10", most: 9, e: api.ErrLarge},
		{b: "a10", at: 1, most: 9, next: 1, e: api.ErrLarge},
		{b: "1", most: 0, e: api.ErrLarge},
		{b: "0", most: -1, e: api.ErrLarge},
		{b: "5", most: math.MinInt, e: api.ErrLarge},
		{b: "2147483647", most: large, n: 2147483647, next: 10},
		{b: "2147483648", most: large, e: api.ErrLarge},
		{b: "2147483650", most: large, e: api.ErrLarge},
		{b: "4294967297", most: large, e: api.ErrLarge},
		{b: "18446744073709551617", most: large, e: api.ErrLarge},
		{b: strings.Repeat("9", 1000), most: large, e: api.ErrLarge},
		{b: "1" + strings.Repeat("0", 64), most: large, e: api.ErrLarge},
		{b: "00", most: 9, e: api.ErrForm},
		{b: "01", most: 0, e: api.ErrForm},
		{b: "x07", at: 1, most: -1, next: 1, e: api.ErrForm},
		{b: "0" + strings.Repeat("9", 50), most: large, e: api.ErrForm},
		{b: "", most: 9, e: api.ErrForm},
		{b: "1", at: 1, most: 9, next: 1, e: api.ErrForm},
		{b: "x", most: 9, e: api.ErrForm},
		{b: "x", most: -1, e: api.ErrForm},
		{b: " 1", most: 9, e: api.ErrForm},
		{b: "+1", most: 9, e: api.ErrForm},
		{b: "/1", most: 9, e: api.ErrForm},
		{b: ":1", most: 9, e: api.ErrForm},
		{b: "1:", most: 9, n: 1, next: 1},
		{b: "1/", most: 9, n: 1, next: 1},
		{b: "1_0", most: 9, n: 1, next: 1},
		{b: "٣", most: 9, e: api.ErrForm},
		{b: "12", at: -1, most: 99, e: api.ErrForm},
		{b: "12", at: 3, most: 99, e: api.ErrForm},
		{b: "12", at: math.MaxInt, most: 99, e: api.ErrForm},
		{b: "12", at: math.MinInt, most: 99, e: api.ErrForm},
		{b: "-1", most: 9, e: api.ErrForm, signedDiffers: true},
		{b: "1-2", at: 1, most: 9, next: 1, e: api.ErrForm, signedDiffers: true},
	}
}

// P1.2: numbers of figures.
func TestNumber(t *testing.T) {
	for _, x := range numberCases() {
		if n, next, e := lex.Number([]byte(x.b), x.at, x.most); n != x.n || next != x.next || e != x.e {
			t.Errorf("Number(%q, %d, %d): %d %d %d", x.b, x.at, x.most, n, next, e)
		}
	}
}

// P1.2: numbers with or without - ahead.
func TestSigned(t *testing.T) {
	const large = math.MaxInt
	cases := []numberCase{
		{b: "-1", most: 9, n: -1, next: 2},
		{b: "-9 ", most: 9, n: -9, next: 2},
		{b: "1-2", at: 1, most: 9, n: -2, next: 3},
		{b: "-429x", most: large, n: -429, next: 4},
		{b: "-2147483647", most: large, n: -2147483647, next: 11},
		{b: "-2147483648", most: large, e: api.ErrLarge},
		{b: "-10", most: 9, e: api.ErrLarge},
		{b: "a-10", at: 1, most: 9, next: 1, e: api.ErrLarge},
		{b: "-1", most: -1, e: api.ErrLarge},
		{b: "-1", most: math.MinInt, e: api.ErrLarge},
		{b: "-" + strings.Repeat("9", 100), most: large, e: api.ErrLarge},
		{b: "-0", most: 9, e: api.ErrForm},
		{b: "-0", most: -1, e: api.ErrForm},
		{b: "-0 1", most: 9, e: api.ErrForm},
		{b: "a-0", at: 1, most: 9, next: 1, e: api.ErrForm},
		{b: "-01", most: 9, e: api.ErrForm},
		{b: "-00", most: -1, e: api.ErrForm},
		{b: "-", most: 9, e: api.ErrForm},
		{b: "-", most: -1, e: api.ErrForm},
		{b: "a-", at: 1, most: 9, next: 1, e: api.ErrForm},
		{b: "a-x", at: 1, most: 9, next: 1, e: api.ErrForm},
		{b: "--1", most: 9, e: api.ErrForm},
		{b: "- 1", most: 9, e: api.ErrForm},
		{b: "-1", at: -1, most: 9, e: api.ErrForm},
		{b: "-1", at: 3, most: 9, e: api.ErrForm},
		{b: "-1", at: 1, most: 9, n: 1, next: 2},
	}
	for _, x := range numberCases() {
		if !x.signedDiffers {
			cases = append(cases, x)
		}
	}
	for _, x := range cases {
		if n, next, e := lex.Signed([]byte(x.b), x.at, x.most); n != x.n || next != x.next || e != x.e {
			t.Errorf("Signed(%q, %d, %d): %d %d %d", x.b, x.at, x.most, n, next, e)
		}
	}
}

// P1.3: rows of bits.
func TestOnes(t *testing.T) {
	long := strings.Repeat("10", 500)
	for _, x := range []struct {
		b        string
		at, most int
		s        string
		next     int
		e        api.Errno
	}{
		{"010", 0, 3, "010", 3, api.OK},
		{"0102", 0, 3, "010", 3, api.OK},
		{"x001 1", 1, 9, "001", 4, api.OK},
		{"0", 0, 1, "0", 1, api.OK},
		{"0000", 0, 4, "0000", 4, api.OK},
		{"0011", 2, 2, "11", 4, api.OK},
		{long, 0, 1000, long, 1000, api.OK},
		{long, 0, math.MaxInt, long, 1000, api.OK},
		{long, 0, 999, "", 0, api.ErrLarge},
		{long, 1, 998, "", 1, api.ErrLarge},
		{"1", 0, 0, "", 0, api.ErrLarge},
		{"01", 1, -1, "", 1, api.ErrLarge},
		{"01", 1, math.MinInt, "", 1, api.ErrLarge},
		{"", 0, 9, "", 0, api.ErrForm},
		{"01", 2, 9, "", 2, api.ErrForm},
		{"2", 0, 9, "", 0, api.ErrForm},
		{"/0", 0, 9, "", 0, api.ErrForm},
		{"x1", 0, 9, "", 0, api.ErrForm},
		{"01x", 2, 9, "", 2, api.ErrForm},
		{"x", 0, -1, "", 0, api.ErrForm},
		{"01", 3, 9, "", 0, api.ErrForm},
		{"01", -1, 9, "", 0, api.ErrForm},
		{"01", math.MaxInt, 9, "", 0, api.ErrForm},
		{"01", math.MinInt, 9, "", 0, api.ErrForm},
	} {
		if s, next, e := lex.Ones([]byte(x.b), x.at, x.most); s != x.s || next != x.next || e != x.e {
			t.Errorf("Ones(%q, %d, %d): %q %d %d", x.b, x.at, x.most, s, next, e)
		}
	}
}

// goodNames have each edge that a name may have.
func goodNames() []string {
	return []string{
		"a", " ", "~", "0", "  a  ", "né 1", "日本語", "\u0080", "\u00a0", "\u200b", "\ufeff",
		"\ufffd", "a\ufffdb", "\ud7ff", "\ue000", "\U00010000", "\U0010ffff",
		strings.Repeat("a", 40), strings.Repeat("é", 40), strings.Repeat("\U0010ffff", 40),
	}
}

// badNames have each edge that no name has.
func badNames() []string {
	out := []string{
		"", "\x7f", "a\x7fb", "a\nb", "\n", "\x80", "a\xff", "\xc3", "a\xc3", "\xc3a", "\xa9",
		"\xc0\x80", "\xc1\xbf", "\xe0\x80\xaf", "\xed\xa0\x80", "\xed\xbf\xbf", "\xef\xbf",
		"\xf0\x80\x80\x80", "\xf4\x90\x80\x80", "\xf5\x80\x80\x80",
		strings.Repeat("a", 41), strings.Repeat("é", 41), strings.Repeat("a", 40) + "\x80",
		strings.Repeat("a", 39) + "\x1f", strings.Repeat("a", 100000),
	}
	for c := range 32 {
		out = append(out, string([]byte{byte(c)}), "a"+string([]byte{byte(c)}))
	}
	return out
}

// P1.4: what is a name.
func TestIsName(t *testing.T) {
	for _, s := range goodNames() {
		if !lex.IsName(s) {
			t.Errorf("no name: %q", s)
		}
	}
	for _, s := range badNames() {
		if lex.IsName(s) {
			t.Errorf("a name: %q", s)
		}
	}
	for c := range 256 {
		if is := lex.IsName(string([]byte{byte(c)})); is != (c >= 32 && c < 127) {
			t.Errorf("byte %d: %v", c, is)
		}
	}
	for r := rune(0); r <= utf8.MaxRune; r++ {
		if is := lex.IsName("a" + string(r)); is != (r >= 32 && r != 127) {
			t.Fatalf("rune %d: %v", r, is)
		}
	}
}

// P1.4: names at places, up to the line's end or the end.
func TestName(t *testing.T) {
	for _, s := range goodNames() {
		for _, behind := range []string{"", "\n", "\nmore", "\n\xff"} {
			b := []byte("\xff\n" + s + behind)
			if got, next, e := lex.Name(b, 2); got != s || next != 2+len(s) || e != api.OK {
				t.Errorf("Name(%q, 2): %q %d %d", b, got, next, e)
			}
		}
	}
	for _, s := range badNames() {
		if strings.HasPrefix(s, "a\n") {
			continue
		}
		for _, behind := range []string{"", "\n", "\nmore"} {
			b := []byte("ab" + s + behind)
			if got, next, e := lex.Name(b, 2); got != "" || next != 2 || e != api.ErrForm {
				t.Errorf("Name(%q, 2): %q %d %d", b, got, next, e)
			}
		}
	}
	for _, x := range []struct {
		b    string
		at   int
		s    string
		next int
		e    api.Errno
	}{
		{"a\nb", 0, "a", 1, api.OK},
		{"a\nb", 2, "b", 3, api.OK},
		{"é", 1, "", 1, api.ErrForm},
		{"éa", 2, "a", 3, api.OK},
		{"ab\r\n", 0, "", 0, api.ErrForm},
		{"a\n", 1, "", 1, api.ErrForm},
		{"a", 1, "", 1, api.ErrForm},
		{"", 0, "", 0, api.ErrForm},
		{"a", 2, "", 0, api.ErrForm},
		{"a", -1, "", 0, api.ErrForm},
		{"a", math.MaxInt, "", 0, api.ErrForm},
		{"a", math.MinInt, "", 0, api.ErrForm},
	} {
		if s, next, e := lex.Name([]byte(x.b), x.at); s != x.s || next != x.next || e != x.e {
			t.Errorf("Name(%q, %d): %q %d %d", x.b, x.at, s, next, e)
		}
	}
}

// sevens are numbers at whose bytes something changes.
func sevens() []int {
	out := []int{0, 1, 2, 42, 300, 1000000, api.MaxNum}
	for k := 7; k <= 28; k += 7 {
		out = append(out, 1<<k-1, 1<<k, 1<<k+1)
	}
	return out
}

// P1.5: a number's bytes of seven bits.
func TestPut(t *testing.T) {
	for _, x := range []struct {
		n int
		b []byte
	}{
		{0, []byte{0}},
		{1, []byte{1}},
		{127, []byte{127}},
		{128, []byte{128, 1}},
		{300, []byte{172, 2}},
		{16383, []byte{255, 127}},
		{16384, []byte{128, 128, 1}},
		{2097151, []byte{255, 255, 127}},
		{2097152, []byte{128, 128, 128, 1}},
		{268435455, []byte{255, 255, 255, 127}},
		{268435456, []byte{128, 128, 128, 128, 1}},
		{2147483647, []byte{255, 255, 255, 255, 7}},
		{2147483648, nil},
		{1 << 32, nil},
		{math.MaxInt, nil},
		{-1, nil},
		{-300, nil},
		{math.MinInt, nil},
	} {
		if b := lex.Put(x.n); !bytes.Equal(b, x.b) {
			t.Errorf("Put(%d): %v", x.n, b)
		}
	}
}

// P1.5: what is taken, and what is no number's.
func TestTake(t *testing.T) {
	for _, x := range []struct {
		b       []byte
		at      int
		n, next int
		e       api.Errno
	}{
		{[]byte{0}, 0, 0, 1, api.OK},
		{[]byte{0, 0}, 0, 0, 1, api.OK},
		{[]byte{128, 0, 5}, 1, 0, 2, api.OK},
		{[]byte{172, 2}, 0, 300, 2, api.OK},
		{[]byte{172, 2}, 1, 2, 2, api.OK},
		{[]byte{9, 172, 2, 9}, 1, 300, 3, api.OK},
		{[]byte{128, 128, 1}, 0, 16384, 3, api.OK},
		{[]byte{255, 255, 255, 255, 7}, 0, api.MaxNum, 5, api.OK},
		{[]byte{255, 255, 255, 255, 7, 255}, 0, api.MaxNum, 5, api.OK},
		{[]byte{128, 128, 128, 128, 8}, 0, 0, 0, api.ErrForm},
		{[]byte{255, 255, 255, 255, 127}, 0, 0, 0, api.ErrForm},
		{[]byte{128, 128, 128, 128, 16}, 0, 0, 0, api.ErrForm},
		{[]byte{128, 128, 128, 128, 128, 1}, 0, 0, 0, api.ErrForm},
		{[]byte{129, 128, 128, 128, 128, 0}, 0, 0, 0, api.ErrForm},
		{[]byte{128, 0}, 0, 0, 0, api.ErrForm},
		{[]byte{1, 129, 0}, 1, 0, 1, api.ErrForm},
		{[]byte{255, 128, 0}, 0, 0, 0, api.ErrForm},
		{[]byte{255, 255, 255, 255, 0}, 0, 0, 0, api.ErrForm},
		{[]byte{128}, 0, 0, 0, api.ErrForm},
		{[]byte{1, 255, 255}, 1, 0, 1, api.ErrForm},
		{bytes.Repeat([]byte{255}, 100), 0, 0, 0, api.ErrForm},
		{append(bytes.Repeat([]byte{128}, 100), 1), 0, 0, 0, api.ErrForm},
		{nil, 0, 0, 0, api.ErrForm},
		{[]byte{5}, 1, 0, 1, api.ErrForm},
		{[]byte{5}, 2, 0, 0, api.ErrForm},
		{[]byte{5}, -1, 0, 0, api.ErrForm},
		{[]byte{5}, math.MaxInt, 0, 0, api.ErrForm},
		{[]byte{5}, math.MinInt, 0, 0, api.ErrForm},
	} {
		if n, next, e := lex.Take(x.b, x.at); n != x.n || next != x.next || e != x.e {
			t.Errorf("Take(%v, %d): %d %d %d", x.b, x.at, n, next, e)
		}
	}
}

// P1.6: what is put is taken.
func TestPutIsTaken(t *testing.T) {
	check := func(n int) {
		b := lex.Put(n)
		for _, behind := range []string{"", "\x00", "\x80", "\xff\x01"} {
			whole := []byte("\x80\x80" + string(b) + behind)
			if got, next, e := lex.Take(whole, 2); got != n || next != 2+len(b) || e != api.OK {
				t.Errorf("%d: Take(%v, 2): %d %d %d", n, whole, got, next, e)
			}
		}
	}
	for n := range 40000 {
		check(n)
	}
	for n := 1; n <= api.MaxNum; n += n/50 + 1 {
		check(n)
	}
	for _, n := range sevens() {
		check(n)
	}
}

// P1.6: what is taken has these bytes.
func TestTakenHasItsBytes(t *testing.T) {
	parts := []byte{0, 1, 7, 8, 127, 128, 129, 255}
	rows := [][]byte{nil}
	for range 6 {
		var longer [][]byte
		for _, row := range rows {
			for _, c := range parts {
				b := append(bytes.Clone(row), c)
				n, next, e := lex.Take(b, 0)
				if e == api.OK && !bytes.Equal(lex.Put(n), b[:next]) {
					t.Fatalf("Take(%v): %d %d, but Put: %v", b, n, next, lex.Put(n))
				}
				if c >= 128 {
					longer = append(longer, b)
				}
			}
		}
		rows = longer
	}
}

// answer is what any of the calls tells, made alike so that calls can be held against each other.
type answer struct {
	n    int
	s    string
	next int
	e    api.Errno
	is   bool
}

// readers are all calls that look at a place.
func readers() map[string]func(b []byte, at int) answer {
	return map[string]func(b []byte, at int) answer{
		"Is": func(b []byte, at int) answer {
			next, is := lex.Is(b, at, "10")
			return answer{next: next, is: is}
		},
		"Number": func(b []byte, at int) answer {
			n, next, e := lex.Number(b, at, 50)
			return answer{n: n, next: next, e: e}
		},
		"Signed": func(b []byte, at int) answer {
			n, next, e := lex.Signed(b, at, 50)
			return answer{n: n, next: next, e: e}
		},
		"Ones": func(b []byte, at int) answer {
			s, next, e := lex.Ones(b, at, 3)
			return answer{s: s, next: next, e: e}
		},
		"Name": func(b []byte, at int) answer {
			s, next, e := lex.Name(b, at)
			return answer{s: s, next: next, e: e}
		},
		"Take": func(b []byte, at int) answer {
			n, next, e := lex.Take(b, at)
			return answer{n: n, next: next, e: e}
		},
	}
}

// texts are all rows of up to 4 of these pieces.
func texts() [][]byte {
	pieces := []string{"0", "1", "7", "-", "\n", "a", "é", "\x80", "\xff", "\x7f"}
	out := [][]byte{nil}
	from := 0
	for range 4 {
		to := len(out)
		for _, b := range out[from:to] {
			for _, p := range pieces {
				out = append(out, append(bytes.Clone(b), p...))
			}
		}
		from = to
	}
	return out
}

// P1.6: nothing ahead of a place matters; next places are from the place to the end. And R2, R3: beside an error stand zero values, and no byte is written.
func TestPlaces(t *testing.T) {
	all := texts()
	for name, read := range readers() {
		for _, b := range all {
			before := bytes.Clone(b)
			for at := range len(b) + 1 {
				got, alone := read(b, at), read(b[at:], 0)
				alone.next += at
				if got != alone {
					t.Fatalf("%s of %q at %d: %v, and alone: %v", name, b, at, got, alone)
				}
				if got.next < at || got.next > len(b) {
					t.Fatalf("%s of %q at %d: next %d", name, b, at, got.next)
				}
				if got.e != api.OK && (got.n != 0 || got.s != "" || got.next != at) {
					t.Fatalf("%s of %q at %d: %v", name, b, at, got)
				}
			}
			for _, at := range []int{-1, len(b) + 1, math.MaxInt, math.MinInt} {
				got := read(b, at)
				if got.n != 0 || got.s != "" || got.next != 0 || got.is || name != "Is" && got.e != api.ErrForm {
					t.Fatalf("%s of %q at %d: %v", name, b, at, got)
				}
			}
			if !bytes.Equal(b, before) {
				t.Fatalf("%s wrote into %q: %q", name, before, b)
			}
		}
	}
}

// R3: answers share no memory with the bytes, nor with each other.
func TestAnswersStandAlone(t *testing.T) {
	b := []byte("0110\n")
	ones, _, _ := lex.Ones(b, 0, 9)
	name, _, _ := lex.Name(b, 0)
	for i := range b {
		b[i] = 'x'
	}
	if ones != "0110" || name != "0110" {
		t.Errorf("%q %q", ones, name)
	}
	one := lex.Put(300)
	one[0] = 0
	if two := lex.Put(300); !bytes.Equal(two, []byte{172, 2}) {
		t.Errorf("%v", two)
	}
}

// R5: a word is held against what is left, with no sum that may go round.
func TestIsAtTheEnd(t *testing.T) {
	b := []byte("abcabc")
	for at := range len(b) + 1 {
		for n := range len(b) + 2 {
			s := "abcabcabcabcabc"[at : at+n]
			next, is := lex.Is(b, at, s)
			want := at+n <= len(b)
			if is != want || is && next != at+n || !is && next != at {
				t.Errorf("Is at %d of %q: %d %v", at, s, next, is)
			}
		}
	}
}
