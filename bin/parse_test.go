package bin_test

import (
	"encoding/binary"
	"math/rand"
	"regexp"
	"strconv"
	"strings"
	"testing"

	"vidimus/aig"
	"vidimus/api"
	"vidimus/bin"
)

// checkWrong holds that bytes are no model's.
func checkWrong(t *testing.T, s string, at int, e api.Errno) {
	t.Helper()
	a, gotAt, gotE := bin.Parse([]byte(s))
	if !aig.Same(a, api.Aig{}) || gotAt != at || gotE != e {
		t.Errorf("%.60q: %.60v, %d, %d; not %d, %d", s, a, gotAt, gotE, at, e)
	}
}

// bytesCase are bytes that are wrong at a place.
type bytesCase struct {
	s  string
	at int
}

func checkCases(t *testing.T, e api.Errno, cases ...bytesCase) {
	t.Helper()
	for _, x := range cases {
		checkWrong(t, x.s, x.at, e)
	}
}

// P7.2: the first line's words, each wrong where it begins; V that isn't the others together is wrong where it stands, behind that line.
func TestParseHeadForm(t *testing.T) {
	checkCases(t, api.ErrForm, []bytesCase{
		{"", 0}, {"a", 0}, {"aig", 0}, {"aig\n", 0}, {"aig0 0 0 0 0 0 0\n", 0}, {" aig 0 0 0 0 0 0 0\n", 0}, {"aag 0 0 0 0 0 0 0\n", 0}, {"aag 1 1 0 0 0 0 0\n2\n", 0}, {"aag ", 0}, {"AIG 0 0 0 0 0 0 0\n", 0}, {"aig\t0 0 0 0 0 0 0\n", 0}, {"\x00", 0},
		{"aig ", 4}, {"aig \n", 4}, {"aig  0 0 0 0 0 0 0\n", 4}, {"aig -1 0 0 0 0 0 0\n", 4}, {"aig 00 0 0 0 0 0 0\n", 4}, {"aig 020001 0\n", 4}, {"aig \x00", 4},
		{"aig 0", 5}, {"aig 0\n", 5}, {"aig 0 ", 6}, {"aig 0 01 0 0 0 0 0\n", 6}, {"aig 0 0", 7}, {"aig 0 0 x", 8}, {"aig 0 0 0\t0", 9}, {"aig 0 0 0 ", 10}, {"aig 0 0 0 0\n", 11}, {"aig 0 0 0 0 -1", 12}, {"aig 0 0 0 0 0\n", 13}, {"aig 0 0 0 0 0 \n", 14}, {"aig 0 0 0 0 0 0\n", 15}, {"aig 0 0 0 0 0 0 x", 16},
		{"aig 0 0 0 0 0 0 0", 17}, {"aig 0 0 0 0 0 0 0 \n", 17}, {"aig 0 0 0 0 0 0 0 0\n", 17}, {"aig 0 0 0 0 0 0 0\r\n", 17},
		{"aig 1 0 0 0 0 0 0\n", 4}, {"aig 0 1 0 0 0 0 0\n", 4}, {"aig 0 0 1 0 0 0 0\n0 0\n", 4}, {"aig 0 0 0 0 1 0 0\n\x02\x00", 4}, {"aig 1 0 0 1 0 1 1\n0\n0\n0\n", 4}, {"aig 2 1 1 0 1 0 0\n0 0\n\x02\x00", 4}, {"aig 4 1 1 0 1 0 0\n0 0\n\x02\x00", 4}, {"aig 20000 20000 20000 0 20000 0 0\nx", 4},
		{"aig 1 0 0 0 0 0 0", 17}, {"aig 1 0 0 0 0 0\n", 15}, {"aig 1 0 x", 8},
	}...)
}

// P7.2: numbers of the first line, each at most what it may be.
func TestParseHeadLarge(t *testing.T) {
	for place := range 7 {
		most, rest := api.MaxRow, []string{"0", "0", "0", "0", "0", "0", "0"}
		if place <= 2 || place == 4 {
			most = api.MaxVar
		}
		at := 4 + 2*place
		for _, n := range []string{strconv.Itoa(most + 1), "2147483648", "4294967296", "18446744073709551616", strings.Repeat("9", 300)} {
			rest[place] = n
			s := "aig " + strings.Join(rest, " ") + "\n"
			checkWrong(t, s, at, api.ErrLarge)
			checkWrong(t, s[:at+len(n)], at, api.ErrLarge)
			checkWrong(t, s[:at+len(n)]+"x", at, api.ErrLarge)
		}
		rest[place] = strconv.Itoa(most)
		s := "aig " + strings.Join(rest, " ") + "\n"
		if most == api.MaxVar {
			checkWrong(t, s, 4, api.ErrForm)
		} else {
			checkWrong(t, s, len(s), api.ErrForm)
		}
	}
	checkWrong(t, "aig 1 0 0 0 0 0 2001\n", 16, api.ErrLarge)
	checkWrong(t, "aig 20000 20001 0 0 0 0 0\n", 10, api.ErrLarge)
}

// P7.2: inputs have no lines, and latches no literal of their own.
func TestParseLatches(t *testing.T) {
	const one, second = "aig 1 0 1 0 0 0 0\n", "aig 3 1 2 0 0 0 0\n0 4\n"
	checkCases(t, api.ErrForm, []bytesCase{
		{"aig 1 1 0 0 0 0 0\n2\n", 18}, {one + "2 0 0\n", 21},
		{one, 18}, {one + "\n", 18}, {one + " 0 0\n", 18}, {one + "x", 18}, {one + "-1 0\n", 18}, {one + "01 0\n", 18}, {one + "\x00", 18},
		{one + "0", 19}, {one + "0\n", 19}, {one + "0x0\n", 19}, {one + "0 ", 20}, {one + "0 \n", 20}, {one + "0  0\n", 20}, {one + "0 -1\n", 20}, {one + "0 00\n", 20},
		{one + "0 0", 21}, {one + "0 0 \n", 21}, {one + "0 0x", 21}, {one + "0 0\r\n", 21}, {one + "0 0\n0 0\n", 22}, {one + "0 0\n\n", 22},
		// A Reset that may not be is told behind its line's end.
		{one + "0 3\n", 20}, {one + "3 3\n", 20}, {one + "0 3", 21}, {one + "0 3 \n", 21}, {one + "0 3x\n", 21}, {one + "0 3\nx", 20},
		{second, 22}, {second + "0 2\n", 24}, {second + "0 3\n", 24}, {second + "0 4\n", 24}, {second + "0 5\n", 24}, {second + "0 7\n", 24}, {second + "0 4", 25},
		{"aig 3 1 2 0 0 0 0\n0 6\n0 0\n", 20}, {"aig 3 1 2 0 0 0 0\n0 2\nx", 20},
	}...)
	checkCases(t, api.ErrLarge, []bytesCase{
		{one + "4 0\n", 18}, {one + "4", 18}, {one + "4x", 18}, {one + "99999999999999999999 0\n", 18}, {one + "0 4\n", 20}, {one + "0 4", 20}, {one + "0 4x", 20}, {one + "0 18446744073709551616\n", 20},
		{second + "8 0\n", 22}, {second + "0 8\n", 24}, {second + "7 8\n", 24},
	}...)
	for _, s := range []string{"7 0\n", "7 1\n", "0 6\n"} {
		if _, at, e := bin.Parse([]byte(second + s)); at != 26 || e != api.OK {
			t.Errorf("%q: %d, %d", s, at, e)
		}
	}
}

// P7.2: outputs, bads and constraints, by their lines, in this order, ahead of the gates.
func TestParseLiterals(t *testing.T) {
	for _, h := range []string{"aig 0 0 0 1 0 0 0\n", "aig 0 0 0 0 0 1 0\n", "aig 0 0 0 0 0 0 1\n"} {
		checkCases(t, api.ErrForm, []bytesCase{
			{h, 18}, {h + "\n", 18}, {h + "x\n", 18}, {h + "-1\n", 18}, {h + " 1\n", 18}, {h + "01\n", 18}, {h + "1", 19}, {h + "1 \n", 19}, {h + "1x", 19}, {h + "1\r\n", 19}, {h + "1\n\n", 20}, {h + "1\n0\n", 20},
		}...)
		checkCases(t, api.ErrLarge, []bytesCase{{h + "2\n", 18}, {h + "2", 18}, {h + "2x", 18}, {h + strings.Repeat("9", 40) + "\n", 18}}...)
	}
	for _, h := range []string{"aig 4 4 0 2 0 0 0\n", "aig 4 4 0 0 0 2 0\n", "aig 4 4 0 0 0 0 2\n"} {
		checkCases(t, api.ErrLarge, []bytesCase{{h + "10\n9\n", 18}, {h + "9\n10\n", 20}, {h + "9\n10", 20}}...)
		checkCases(t, api.ErrForm, []bytesCase{{h + "9\n", 20}, {h + "9\n9", 21}, {h + "9\n9 ", 21}}...)
	}
	checkWrong(t, "aig 1 0 0 1 1 1 1\n0\n1\n4\n\x02\x00", 22, api.ErrLarge)
	checkWrong(t, "aig 1 0 0 1 1 1 1\n0\n1\n\x02\x002\n", 22, api.ErrForm)
}

// P7.2: a gate's two numbers of seven bits, each wrong where it begins.
func TestParseGates(t *testing.T) {
	const one, second, large = "aig 1 0 0 0 1 0 0\n", "aig 4 1 1 0 2 0 0\n0 0\n\x01\x00", "aig 65 64 0 0 1 0 0\n"
	checkCases(t, api.ErrForm, []bytesCase{
		{one, 18}, {one + "\x01", 19}, {one + "\x02", 19}, {one + "\x00", 18}, {one + "\x00\x00", 18}, {one + "\x00\x01", 18}, {one + "\x00x", 18},
		{one + "\x80", 18}, {one + "\xff", 18}, {one + "\x82\x00\x00", 18}, {one + "\x80\x00\x00", 18}, {one + "\x82\x80\x00\x00", 18}, {one + "\x80\x80\x80\x80\x08\x00", 18}, {one + "\xff\xff\xff\xff\xff\xff\xff\xff\xff\x01\x00", 18},
		{one + "\x01\x80", 19}, {one + "\x01\xff", 19}, {one + "\x01\x80\x00", 19}, {one + "\x01\x81\x00", 19}, {one + "\x02\x80\x00", 19}, {one + "\x01\xff\xff\xff\xff\x08", 19}, {one + "\x01\x80\x80\x80\x80\x80\x01", 19},
		{one + "\x01\x01\x01", 20}, {one + "\x01\x00\n", 20}, {one + "\x01\x01\x01\x00", 20},
		{second, 24}, {second + "\x08", 25}, {second + "\x00", 24}, {second + "\x88\x00\x00", 24}, {second + "\x01\x87\x00", 25}, {second + "\x01", 25},
		{large, 20}, {large + "\x82", 20}, {large + "\x82\x01", 22}, {large + "\x82\x81\x00", 20}, {large + "\x01\x81", 21}, {large + "\x01\x81\x80\x00", 21}, {large + "\x82\x01\x80", 22},
	}...)
	checkCases(t, api.ErrLarge, []bytesCase{
		{one + "\x03", 18}, {one + "\x03\x00", 18}, {one + "\x7f\x00", 18}, {one + "\x80\x01", 18}, {one + "\xff\xff\xff\xff\x07\x00", 18}, {one + "2 0 0\n", 18},
		{one + "\x01\x02", 19}, {one + "\x02\x01", 19}, {one + "\x01\x7f", 19}, {one + "\x02\x80\x01", 19}, {one + "\x01\xff\xff\xff\xff\x07", 19}, {one + "\x01\x02x", 19},
		{second + "\x09\x00", 24}, {second + "\x08\x01", 25}, {second + "\x01\x08", 25}, {second + "\x07\x02", 25},
		{large + "\x83\x01\x00", 20}, {large + "\x83\x01", 20}, {large + "\x01\x82\x01", 21}, {large + "\x82\x01\x01", 22}, {large + "\x03\x80\x01", 21},
	}...)
	for _, s := range []string{second + "\x01\x07", second + "\x01\x00", second + "\x08\x00", second + "\x07\x01", large + "\x82\x01\x00", large + "\x01\x81\x01", large + "\x02\x80\x01", large + "\x03\x7f"} {
		a, at, e := bin.Parse([]byte(s))
		if again, e2 := bin.Print(a); at != len(s) || e != api.OK || string(again) != s || e2 != api.OK {
			t.Errorf("%q: %d, %d, %q", s, at, e, again)
		}
	}
}

// P7.2: names, and what is behind the last gate.
func TestParseNames(t *testing.T) {
	const h = "aig 5 2 2 2 1 2 2\n0 0\n0 0\n0\n0\n0\n0\n0\n0\n\x0a\x00"
	const at = len(h)
	for _, s := range []string{"\n", " ", "x", "a0 x\n", "I0 x\n", "0 x\n", "\x00", "\xff", "\x01\x00", "g0 x\n", "é"} {
		checkWrong(t, h+s, at, api.ErrForm)
		checkWrong(t, h+"i0 x\n"+s, at+5, api.ErrForm)
	}
	for _, kind := range []string{"i", "l", "o", "b", "c"} {
		k := h + kind
		checkCases(t, api.ErrForm, []bytesCase{
			{k, at + 1}, {k + " 0 x\n", at + 1}, {k + "x", at + 1}, {k + "-1 x\n", at + 1}, {k + "01 x\n", at + 1},
			{k + "0", at + 2}, {k + "0\n", at + 2}, {k + "0x\n", at + 2}, {k + "0 ", at + 3}, {k + "0 \n", at + 3}, {k + "0 \x1f\n", at + 3}, {k + "0 a\x7f\n", at + 3}, {k + "0 \xff\n", at + 3},
			{k + "0 " + strings.Repeat("é", 41) + "\n", at + 3}, {k + "0 x", at + 4}, {k + "0 " + strings.Repeat("é", 40), at + 83},
			{k + "0 x\n\n", at + 5}, {k + "0 x\n" + kind, at + 6}, {k + "0 x\n" + kind + "0 x\n", at + 5}, {k + "1 x\n" + kind + "0 x\n", at + 5},
			// That a name isn't behind the one ahead is told behind its line's end.
			{k + "1 x\n" + kind + "0 x", at + 9}, {k + "1 x\n" + kind + "0 ", at + 8}, {k + "1 x\n" + kind + "0 x\nq", at + 5},
		}...)
		checkCases(t, api.ErrLarge, []bytesCase{{k + "2 x\n", at + 1}, {k + "2", at + 1}, {k + "2x", at + 1}, {k + "99999999999999999999 x\n", at + 1}, {k + "1 x\n" + kind + "2 x\n", at + 6}}...)
		none := "aig 0 0 0 0 0 0 0\n" + kind
		checkCases(t, api.ErrLarge, []bytesCase{{none + "0 x\n", 19}, {none + "0", 19}}...)
		checkCases(t, api.ErrForm, []bytesCase{{none, 19}, {none + "00", 19}}...)
	}
}

// P7.2: names of one kind behind those of another, each way round.
func TestParseNameKinds(t *testing.T) {
	const h, kinds = "aig 4 2 2 2 0 2 2\n0 0\n0 0\n0\n0\n0\n0\n0\n0\n", "ilobc"
	for i := range kinds {
		for k := range kinds {
			s := h + kinds[i:i+1] + "1 x\n" + kinds[k:k+1] + "0 x\n"
			if i >= k {
				checkWrong(t, s, len(h)+5, api.ErrForm)
			} else if a, at, e := bin.Parse([]byte(s)); at != len(s) || e != api.OK || len(a.Names) != 2 || a.Names[1].Kind != kinds[k] {
				t.Errorf("%q: %d, %d", s, at, e)
			}
		}
	}
}

// P7.2: one name too many is wrong where its line begins, whatever is behind that; what begins no name is no name too many.
func TestParseTooManyNames(t *testing.T) {
	full := aig.Names(manyOuts(), "aig 1 0 0 2000 1 0 0\n"+repeated("3\n")+"\x02\x00")
	if a, at, e := bin.Parse([]byte(full)); e != api.OK || at != len(full) || len(a.Names) != api.MaxRow {
		t.Errorf("as many as there may be: %d, %d", at, e)
	}
	for _, s := range []string{"o2000 x\n", "o0 x\n", "o", "c0 x\n", "i0 x\n\n", "ix", "b0"} {
		checkWrong(t, full+s, len(full), api.ErrLarge)
	}
	for _, s := range []string{"x", "\n", " ", "2000 x\n", "\x01\x00"} {
		checkWrong(t, full+s, len(full), api.ErrForm)
	}
}

// P7.2, P7.3: MaxBytes and one more; what is printed and longer is not parsed.
func TestParseMaxBytes(t *testing.T) {
	a := api.Aig{I: api.MaxRow, L: make([]api.Latch, api.MaxVar-api.MaxRow)}
	out, _ := bin.Print(a)
	for i := 0; len(out) <= api.MaxBytes-60; i++ {
		a.Names = append(a.Names, api.Name{Kind: 'i', At: i, S: strings.Repeat("n", 36)})
		out, _ = bin.Print(a)
	}
	last := api.Name{Kind: 'i', At: len(a.Names)}
	if room := api.MaxBytes - len(out) - len("i"+strconv.Itoa(last.At)+" \n"); room > api.MaxName {
		last.S = strings.Repeat("é", room-api.MaxName) + strings.Repeat("n", 2*api.MaxName-room)
	} else {
		last.S = strings.Repeat("n", room)
	}
	a.Names = append(a.Names, last)
	out, e := bin.Print(a)
	if len(out) != api.MaxBytes || e != api.OK {
		t.Fatal(len(out), e)
	}
	if b, at, e := bin.Parse(out); at != len(out) || e != api.OK || !aig.Same(a, b) {
		t.Errorf("%d, %d", at, e)
	}
	checkWrong(t, string(out[:len(out)-1]), len(out)-1, api.ErrForm)
	checkWrong(t, string(out)+"\n", 0, api.ErrLarge)
	checkWrong(t, "x"+string(out), 0, api.ErrLarge)
	checkWrong(t, strings.Repeat("x", api.MaxBytes), 0, api.ErrForm)
	checkWrong(t, strings.Repeat("x", api.MaxBytes+1), 0, api.ErrLarge)
	a.Names = append(a.Names, api.Name{Kind: 'l', S: "x"})
	out, e = bin.Print(a)
	if len(out) != api.MaxBytes+5 || e != api.OK {
		t.Fatal(len(out), e)
	}
	checkWrong(t, string(out), 0, api.ErrLarge)
}

// text is one that is made of bytes, and of which place of these each of its bytes is made.
type text struct {
	s      strings.Builder
	places []int
}

// take lays behind it a piece that stands at a place of the bytes.
func (x *text) take(piece string, at int) {
	x.s.WriteString(piece)
	for i := range len(piece) {
		x.places = append(x.places, at+i)
	}
}

// add lays behind it a piece that the bytes don't have, ahead of what stands at a place.
func (x *text) add(piece string, at int) {
	x.s.WriteString(piece)
	for range len(piece) {
		x.places = append(x.places, at)
	}
}

// parsed is what package aig reads of the text with that end, and the place in the bytes, of which the text's end is the one at that end.
func (x *text) parsed(then string, end int) (api.Aig, int, api.Errno) {
	a, at, e := aig.Parse([]byte(x.s.String() + then))
	if at < len(x.places) {
		return a, x.places[at], e
	}
	return a, end, e
}

var headForm = regexp.MustCompile(`^aig (\d{1,5}) (\d{1,5}) (\d{1,5}) (\d{1,5}) (\d{1,5}) (\d{1,5}) (\d{1,5})\n`)

// sevens is the number that stands at a place by encoding/binary, which also takes one with more bytes than it needs.
func sevens(s string, at int) (uint64, int, bool) {
	n, size := binary.Uvarint([]byte(s[at:]))
	return n, at + size, size > 0 && n <= api.MaxNum && len(binary.AppendUvarint(nil, n)) == size
}

// slowly is Parse by other means: all but the gates is made a text that package aig reads, and these are read by encoding/binary.
func slowly(s string) (api.Aig, int, api.Errno) {
	if !strings.HasPrefix(s, "aig ") {
		return api.Aig{}, 0, api.ErrForm
	}
	head := headForm.FindString(s)
	if head == "" {
		return aig.Parse([]byte("aag " + s[4:]))
	}
	// The first line alone: what is missing behind it is wrong at its end.
	if a, at, e := aig.Parse([]byte("aag " + head[4:])); at < len(head) {
		return a, at, e
	}
	var n [7]int
	for i, figures := range headForm.FindStringSubmatch(s)[1:] {
		n[i], _ = strconv.Atoi(figures)
	}
	x := &text{}
	x.take("aag "+head[4:], 0)
	at := len(head)
	for i := range n[1] {
		x.add(strconv.Itoa(2+2*i)+"\n", at)
	}
	for i := range n[2] + n[3] + n[5] + n[6] {
		if i < n[2] {
			x.add(strconv.Itoa(2+2*n[1]+2*i)+" ", at)
		}
		line, _, whole := strings.Cut(s[at:], "\n")
		if !whole {
			x.take(line, at)
			return x.parsed("", len(s))
		}
		x.take(line+"\n", at)
		at += len(line) + 1
	}
	return slowlyFromGates(s, at, 2+2*n[1]+2*n[2], n[4], x)
}

// slowlyFromGates goes on where all is read that is ahead of the gates.
func slowlyFromGates(s string, at, literal, gates int, x *text) (api.Aig, int, api.Errno) {
	ahead := ""
	for i := range gates {
		ahead += strconv.Itoa(literal+2*i) + " 0 0\n"
	}
	if _, wrongAt, e := x.parsed(ahead, at); e != api.OK {
		return api.Aig{}, wrongAt, e
	}
	for range gates {
		less, next, is := sevens(s, at)
		if !is || less == 0 {
			return api.Aig{}, at, api.ErrForm
		}
		if less > uint64(literal) {
			return api.Aig{}, at, api.ErrLarge
		}
		a := literal - int(less)
		more, behind, is := sevens(s, next)
		if !is {
			return api.Aig{}, next, api.ErrForm
		}
		if more > uint64(a) {
			return api.Aig{}, next, api.ErrLarge
		}
		x.add(strconv.Itoa(literal)+" "+strconv.Itoa(a)+" "+strconv.Itoa(a-int(more))+"\n", behind)
		at, literal = behind, literal+2
	}
	x.take(s[at:], at)
	return x.parsed("", len(s))
}

// checkBytes holds all of P7.2 and P7.3 of some bytes, and R3: none is written.
func checkBytes(t *testing.T, s string) {
	t.Helper()
	b := []byte(s)
	a, at, e := bin.Parse(b)
	want, wantAt, wantE := slowly(s)
	if at != wantAt || e != wantE || !aig.Same(a, want) {
		t.Fatalf("%q: %v, %d, %d; not %v, %d, %d", s, a, at, e, want, wantAt, wantE)
	}
	if at < 0 || at > len(s) || e != api.OK && !aig.Same(a, api.Aig{}) {
		t.Fatalf("%q: %v, %d", s, a, at)
	}
	if printed, e2 := bin.Print(a); e == api.OK && (string(printed) != s || e2 != api.OK || !aig.Right(a)) {
		t.Fatalf("%q: %v is printed as %q", s, a, printed)
	}
	if string(b) != s {
		t.Fatalf("%q became %q", s, b)
	}
}

// P7.2, P7.3: bytes that differ in one place from a right model's: cut off there, or one changed, left out, or put in.
func TestParseNearBytes(t *testing.T) {
	for s := range rightModels() {
		if len(s) > 500 || strings.Contains(s, "20000") {
			continue
		}
		for at := range len(s) + 1 {
			checkBytes(t, s[:at])
			if at < len(s) {
				checkBytes(t, s[:at]+s[at+1:])
			}
			for _, p := range []string{"0", "1", "2", "9", "-", " ", "\n", "a", "i", "l", "o", "b", "c", "x", "\x00", "\x01", "\x02", "\x0a\x00", "\x7f", "\x80", "\x80\x01", "\xff", "\x80\x00", "\xff\xff\xff\xff\x07", "\xff\xff\xff\xff\x08", "é", "i0 x\n", "2\n"} {
				checkBytes(t, s[:at]+p+s[at:])
				if at < len(s) {
					checkBytes(t, s[:at]+p+s[at+1:])
				}
			}
		}
	}
}

// P7.2: each byte in a gate's stead, and behind it each that something may change at.
func TestParseAllGates(t *testing.T) {
	edges := "\x00\x01\x02\x03\x04\x05\x06\x07\x08\x09\x0a\x0b0i\x7e\x7f\x80\x81\x82\x83\x84\x85\x86\xfe\xff"
	for _, h := range []string{"aig 1 0 0 0 1 0 0\n", "aig 3 2 0 0 1 0 0\n", "aig 66 65 0 0 1 0 0\n", "aig 4 1 1 0 2 0 0\n0 0\n\x01\x04"} {
		for first := range 256 {
			one := h + string([]byte{byte(first)})
			checkBytes(t, one)
			for second := range len(edges) {
				for _, rest := range []string{"", "\x00", "\x01", "\x80", "\x81\x01", "\x01i0 x\n", "\x00\x00"} {
					checkBytes(t, one+edges[second:second+1]+rest)
				}
			}
		}
	}
}

// P7.2: bytes that are cut off are wrong where what is missing begins; where a name's line may begin nothing is missing.
func TestParseEndsEarly(t *testing.T) {
	s := "aig 66 64 1 1 1 0 0\n6 0\n7\n\x83\x01\x01" + "i0 né\nl0 x\n"
	places := []int{
		0, 0, 0, 0, 4, 5, 6, 7, 8, 9, 10, 11, 12, 13, 14, 15, 16, 17, 18, 19,
		20, 21, 22, 23, 24, 25, 26, 26, 28, -1, 30, 31, 32, 33, 32, 35, -1, 37, 38, 39, 40,
	}
	if len(places) != len(s) {
		t.Fatalf("a place of each early end: %d of %d", len(places), len(s))
	}
	for end, at := range places {
		if at >= 0 {
			checkWrong(t, s[:end], at, api.ErrForm)
		} else if a, at, e := bin.Parse([]byte(s[:end])); at != end || e != api.OK || aig.Vars(a) != 66 {
			t.Errorf("%q: %d, %d", s[:end], at, e)
		}
	}
}

// someModel is a right model, by chance.
func someModel(r *rand.Rand) api.Aig {
	size := []int{3, 12, 60, 200}[r.Intn(4)]
	a := api.Aig{I: r.Intn(size), L: make([]api.Latch, r.Intn(size)), G: make([]api.And, r.Intn(size))}
	last := 2*(a.I+len(a.L)+len(a.G)) + 1
	for i := range a.L {
		a.L[i] = api.Latch{Next: r.Intn(last + 1), Reset: []int{0, 1, 2 * (a.I + 1 + i)}[r.Intn(3)]}
	}
	for i := range a.G {
		x := r.Intn(2 * (a.I + len(a.L) + 1 + i))
		a.G[i] = api.And{A: x, B: r.Intn(x + 1)}
	}
	for _, row := range []*[]int{&a.Outs, &a.Bad, &a.Con} {
		for range r.Intn(size) {
			*row = append(*row, r.Intn(last+1))
		}
	}
	for i, many := range []int{a.I, len(a.L), len(a.Outs), len(a.Bad), len(a.Con)} {
		for at := range many {
			if r.Intn(2) == 0 {
				a.Names = append(a.Names, api.Name{Kind: "ilobc"[i], At: at, S: []string{"x", " y ", "né", "i0 x", "12", "日本"}[r.Intn(6)]})
			}
		}
	}
	return a
}

// P7.3: what is printed is parsed, with a byte of it changed too; a model that has bytes has a text, from which it comes back; and nothing that was handed in is changed.
func TestPrintedIsParsed(t *testing.T) {
	r := rand.New(rand.NewSource(73))
	for range 300 {
		a := someModel(r)
		before := cloned(a)
		out, e := bin.Print(a)
		b, at, e2 := bin.Parse(out)
		if e != api.OK || e2 != api.OK || at != len(out) || !aig.Same(a, b) || !aig.Right(b) {
			t.Fatalf("%v: %d, %v, %d, %d", a, e, b, at, e2)
		}
		if !aig.Same(a, before) {
			t.Fatalf("%v became %v", before, a)
		}
		s, e := aig.Print(b)
		if c, _, e2 := aig.Parse([]byte(s)); e != api.OK || e2 != api.OK || !aig.Same(a, c) {
			t.Fatalf("%v has no text: %d, %d", a, e, e2)
		}
		checkBytes(t, string(out))
		for range 20 {
			near := append([]byte(nil), out...)
			near[r.Intn(len(near))] = byte(r.Intn(256))
			checkBytes(t, string(near))
			checkBytes(t, string(out[:r.Intn(len(out))]))
		}
	}
}

// R3: what is parsed shares no memory with the bytes, nor lists with each other.
func TestParsedStandsAlone(t *testing.T) {
	b := []byte(wholeBytes)
	a, _, _ := bin.Parse(b)
	clear(b)
	if !aig.Same(a, whole()) {
		t.Error("the bytes are kept")
	}
	want := whole()
	a.Outs, want.Outs = append(a.Outs, 7, 7, 7), append(want.Outs, 7, 7, 7)
	a.Bad, want.Bad = append(a.Bad, 8, 8, 8), append(want.Bad, 8, 8, 8)
	a.Con, want.Con = append(a.Con, 9, 9, 9), append(want.Con, 9, 9, 9)
	if !aig.Same(a, want) {
		t.Error(a)
	}
}
