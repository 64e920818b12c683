package wit_test

import (
	"math/big"
	"regexp"
	"strconv"
	"strings"
	"testing"

	"vidimus/api"
	"vidimus/wit"
)

// checkWrong holds that a text is no trace's.
func checkWrong(t *testing.T, a api.Aig, s string, at int, e api.Errno) {
	t.Helper()
	w, gotAt, gotE := wit.Parse(a, []byte(s))
	if !alike(w, api.Trace{}) || gotAt != at || gotE != e {
		t.Errorf("%.60q: %.60v, %d, %d; not %d, %d", s, w, gotAt, gotE, at, e)
	}
}

// checkParsed holds that a text is that trace's.
func checkParsed(t *testing.T, a api.Aig, s string, want api.Trace) {
	t.Helper()
	if w, at, e := wit.Parse(a, []byte(s)); !alike(w, want) || at != len(s) || e != api.OK {
		t.Errorf("%.60q: %.60v, %d, %d; not %.60v", s, w, at, e, want)
	}
}

// textCase is a text that is wrong at a place.
type textCase struct {
	s  string
	at int
}

func checkCases(t *testing.T, a api.Aig, e api.Errno, cases ...textCase) {
	t.Helper()
	for _, x := range cases {
		checkWrong(t, a, x.s, x.at, e)
	}
}

// P10.2: texts of right traces.
func TestParse(t *testing.T) {
	checkParsed(t, modelOf(1, "", 1), "1\nb0\n\n1\n.\n", trace(0, "", "1"))
	checkParsed(t, modelOf(0, "", 1), "1\nb0\n\n\n.\n", trace(0, "", ""))
	checkParsed(t, modelOf(0, "", 1), "1\nb0\n\n\n\n\n.\n", trace(0, "", "", "", ""))
	checkParsed(t, modelOf(0, "x", 2), "1\nb1\nx\n\n.\n", trace(1, "x", ""))
	checkParsed(t, modelOf(3, "0x1x", 12), "1\nb11\n0x1x\nx10\n.\n", trace(11, "0x1x", "x10"))
	checkParsed(t, modelOf(3, "0x1x", 12), "1\nb9\n0011\n000\n111\nxxx\n01x\n.\n", trace(9, "0011", "000", "111", "xxx", "01x"))
	checkParsed(t, modelOf(1, "", 2000), "1\nb1999\n\n1\n.\n", trace(1999, "", "1"))
}

// P10.2: what begins a text is one word, wrong where it begins.
func TestParseFirstWord(t *testing.T) {
	a := modelOf(1, "", 1)
	for _, s := range []string{"", "1", "1\n", "1\nB0\n\n1\n.\n", "1b0\n\n1\n.\n", "0\nb0\n\n1\n.\n", "2\nb0\n\n1\n.\n", "1 \nb0\n\n1\n.\n", "1\n b0\n\n1\n.\n", "1\r\nb0\n\n1\n.\n", "\n1\nb0\n\n1\n.\n", " 1\nb0\n\n1\n.\n", "1\nj0\n\n1\n.\n", "1\n0\n\n1\n.\n", "11\nb0\n\n1\n.\n", "sat\nb0\n", "b0\n", ".\n", "x", "\xff"} {
		checkWrong(t, a, s, 0, api.ErrForm)
	}
}

// P10.2: Bad is wrong where it begins, and what isn't a line's end behind it.
func TestParseBad(t *testing.T) {
	a := modelOf(1, "", 12)
	for _, s := range []string{"", "\n", "\n\n1\n.\n", " 0\n\n1\n.\n", "00\n\n1\n.\n", "01\n\n1\n.\n", "011\n\n1\n.\n", "012\n\n1\n.\n", "0" + strings.Repeat("9", 50), "-1\n\n1\n.\n", "-0\n\n1\n.\n", "+1\n\n1\n.\n", "x\n\n1\n.\n", "b0\n\n1\n.\n", ".\n", "\x00", "é"} {
		checkWrong(t, a, "1\nb"+s, 3, api.ErrForm)
	}
	for _, n := range []string{"12", "13", "99", "110", "1000", "2147483647", "2147483648", "4294967296", "4294967297", "18446744073709551616", "18446744073709551617", strings.Repeat("9", 300), strings.Repeat("1", 90000)} {
		for _, s := range []string{"", "\n", "x", "\n\n1\n.\n", " \n", "\n\n.\n"} {
			checkWrong(t, a, "1\nb"+n+s, 3, api.ErrLarge)
		}
	}
	checkCases(t, a, api.ErrForm, []textCase{{"1\nb0", 4}, {"1\nb11", 5}, {"1\nb11 \n\n1\n.\n", 5}, {"1\nb1x\n", 4}, {"1\nb1\r\n", 4}, {"1\nb1.\n", 4}, {"1\nb1b1\n", 4}}...)
	for bad := range 12 {
		checkParsed(t, a, "1\nb"+strconv.Itoa(bad)+"\n\n1\n.\n", trace(bad, "", "1"))
	}
	most := modelOf(1, "", api.MaxRow)
	checkWrong(t, most, "1\nb2000\n\n1\n.\n", 3, api.ErrLarge)
	checkWrong(t, most, "1\nb01999\n\n1\n.\n", 3, api.ErrForm)
	none := modelOf(1, "", 0)
	checkWrong(t, none, "1\nb0\n\n1\n.\n", 3, api.ErrLarge)
	checkWrong(t, none, "1\nb\n\n1\n.\n", 3, api.ErrForm)
	checkWrong(t, none, "1\nb00\n\n1\n.\n", 3, api.ErrForm)
}

// P10.2: each value of Init by itself, and of a latch whose Reset is 0, or 1, that.
func TestParseInit(t *testing.T) {
	a := modelOf(1, "01x", 1)
	for _, s := range []string{"", "\n", "1", "x", "x1x\n", "110\n", ".\n", " ", "2", "?", "X", "o", "\x00", "\x02"} {
		checkWrong(t, a, "1\nb0\n"+s, 5, api.ErrForm)
	}
	for _, s := range []string{"", "\n", "0", "x", "00x\n", "0xx\n", ".\n", " ", "2"} {
		checkWrong(t, a, "1\nb0\n0"+s, 6, api.ErrForm)
	}
	for _, s := range []string{"", "\n", ".", ".\n", "2", "X", " ", "-", "\xff", "\x02", "\x00"} {
		checkWrong(t, a, "1\nb0\n01"+s, 7, api.ErrForm)
	}
	for _, s := range []string{"", "0", "x", ".", ".\n", " \n", "\r\n", "00\n"} {
		checkWrong(t, a, "1\nb0\n01x"+s, 8, api.ErrForm)
	}
	for _, sign := range []string{"0", "1", "x"} {
		checkParsed(t, a, "1\nb0\n01"+sign+"\n1\n.\n", trace(0, "01"+sign, "1"))
	}
	none := modelOf(1, "", 1)
	for _, s := range []string{"", "0\n1\n.\n", "x", ".\n", " ", "1\n.\n"} {
		checkWrong(t, none, "1\nb0\n"+s, 5, api.ErrForm)
	}
	// A latch's own literal may be of any number, and lets it be anything.
	for resets, wrong := range map[string]int{"x0": 6, "x1": 6, "xx": -1, "0x": 5, "1x": 5} {
		free := modelOf(7, resets, 1)
		s := "1\nb0\nxx\n0101xx1\n.\n"
		if wrong < 0 {
			checkParsed(t, free, s, trace(0, "xx", "0101xx1"))
		} else {
			checkWrong(t, free, s, wrong, api.ErrForm)
		}
	}
}

// P10.2: frames, and the point behind the last one.
func TestParseFrames(t *testing.T) {
	const h = "1\nb0\n0\n"
	a := modelOf(2, "0", 1)
	// Ahead of the first frame no point may stand.
	for _, s := range []string{"", ".", ".\n", "\n", "\n.\n", " ", "2", "b", "X", "\x01"} {
		checkWrong(t, a, h+s, 7, api.ErrForm)
		checkWrong(t, a, h+"x"+s, 8, api.ErrForm)
		checkWrong(t, a, h+"10\nx"+s, 11, api.ErrForm)
	}
	for _, s := range []string{"", "0", "x", ".", ".\n", " \n", "\r\n", "1\n.\n"} {
		checkWrong(t, a, h+"x1"+s, 9, api.ErrForm)
		checkWrong(t, a, h+"10\nx1"+s, 12, api.ErrForm)
	}
	// Behind a frame either a value or the point with its line's end.
	for _, s := range []string{"", ".", ". \n", ".x", ".\r\n", "..\n", "\n", "\n.\n", " .\n", "2", "b0\n", "\x00"} {
		checkWrong(t, a, h+"x1\n"+s, 10, api.ErrForm)
		checkWrong(t, a, h+"x1\n01\n"+s, 13, api.ErrForm)
	}
	// Behind the point nothing.
	for _, s := range []string{"\n", "x", ".", ".\n", "0", "01\n.\n", " ", "1\nb0\n0\n01\n.\n", "\x00"} {
		checkWrong(t, a, h+"x1\n.\n"+s, 12, api.ErrForm)
	}
}

// P10.2: with no inputs a line's end is what a frame is.
func TestParseFramesOfNone(t *testing.T) {
	const h = "1\nb0\n\n"
	a := modelOf(0, "", 1)
	for _, s := range []string{"", ".", ".\n", "0", "x", "1\n", " \n", "\r\n"} {
		checkWrong(t, a, h+s, 6, api.ErrForm)
	}
	for _, s := range []string{"", ".", "0", "x", "1\n", " \n", "\r\n", ". \n", ".."} {
		checkWrong(t, a, h+"\n"+s, 7, api.ErrForm)
		checkWrong(t, a, h+"\n\n\n"+s, 9, api.ErrForm)
	}
	for _, s := range []string{"\n", ".", ".\n", "0", "x"} {
		checkWrong(t, a, h+"\n.\n"+s, 9, api.ErrForm)
	}
}

// P10.2: behind MaxSteps frames the point with its line's end, or else there is too much, whatever stands there.
func TestParseMaxSteps(t *testing.T) {
	for _, x := range []struct {
		a           api.Aig
		init, frame string
	}{{modelOf(2, "1", 1), "1", "0x"}, {modelOf(0, "", 1), "", ""}, {modelOf(0, "xx", 1), "0x", ""}, {modelOf(1, "", 1), "", "x"}} {
		h := "1\nb0\n" + x.init + "\n"
		full := h + strings.Repeat(x.frame+"\n", api.MaxSteps)
		checkParsed(t, x.a, full+".\n", trace(0, x.init, repeat(x.frame, api.MaxSteps)...))
		for _, s := range []string{"", ".", "0", "x", "1", "\n", "2", " ", ".x", ". \n", x.frame, x.frame + "\n", x.frame + "\n.\n", strings.Repeat(x.frame+"\n", 300) + ".\n", "\xff"} {
			checkWrong(t, x.a, full+s, len(full), api.ErrLarge)
		}
		for _, s := range []string{"\n", ".", ".\n", "x", x.frame + "\n.\n"} {
			checkWrong(t, x.a, full+".\n"+s, len(full)+2, api.ErrForm)
		}
		// One fewer: what is wrong there is wrong as ever.
		fewer := h + strings.Repeat(x.frame+"\n", api.MaxSteps-1)
		checkParsed(t, x.a, fewer+".\n", trace(0, x.init, repeat(x.frame, api.MaxSteps-1)...))
		for _, s := range []string{"", ".", "2", " "} {
			checkWrong(t, x.a, fewer+s, len(fewer), api.ErrForm)
			checkWrong(t, x.a, fewer+x.frame+s, len(fewer)+len(x.frame), api.ErrForm)
		}
	}
}

// P10.2, P10.4: MaxBytes and one more.
func TestParseMaxBytes(t *testing.T) {
	const inputs = 12498
	frame := strings.Repeat("01x", inputs/3)
	a, w := modelOf(inputs, "", 1), trace(0, "", repeat(frame, 8)...)
	s, e := wit.Print(w)
	if len(s) != api.MaxBytes || e != api.OK {
		t.Fatal(len(s), e)
	}
	checkParsed(t, a, s, w)
	checkWrong(t, a, s[:len(s)-1], len(s)-2, api.ErrForm)
	checkWrong(t, a, s[:len(s)-2]+"x\n", len(s)-1, api.ErrForm)
	checkWrong(t, a, s+"\n", 0, api.ErrLarge)
	checkWrong(t, a, "x"+s, 0, api.ErrLarge)
	checkWrong(t, a, strings.Repeat("x", api.MaxBytes), 0, api.ErrForm)
	checkWrong(t, a, strings.Repeat("x", api.MaxBytes+1), 0, api.ErrLarge)
	checkWrong(t, a, "1\nb1"+strings.Repeat("0", api.MaxBytes-4), 3, api.ErrLarge)
	checkWrong(t, a, "1\nb1"+strings.Repeat("0", api.MaxBytes-3), 0, api.ErrLarge)
	// A right trace whose text is longer is printed, but not parsed.
	longer := trace(0, "", repeat(frame, 9)...)
	s, e = wit.Print(longer)
	if e != api.OK || !wit.Right(a, longer) {
		t.Fatal(e)
	}
	checkWrong(t, a, s, 0, api.ErrLarge)
	// In Init likewise.
	latches := modelOf(1, strings.Repeat("x", 20000-1), 1)
	w = trace(0, strings.Repeat("x10", 6666)+"x", "1")
	s, _ = wit.Print(w)
	checkParsed(t, latches, s, w)
}

// P10.2: a text that is cut off at a place, or whose byte there is wrong, is wrong where the word begins that has this byte.
func TestParseEachPlace(t *testing.T) {
	const s = "1\nb10\n0x1\nx0\n11\n.\n"
	a := modelOf(2, "0x1", 11)
	checkParsed(t, a, s, trace(10, "0x1", "x0", "11"))
	places := []int{0, 0, 0, 3, 4, 5, 6, 7, 8, 9, 10, 11, 12, 13, 14, 15, 16, 16}
	if len(places) != len(s) {
		t.Fatalf("a place of each byte: %d of %d", len(places), len(s))
	}
	for i, at := range places {
		checkWrong(t, a, s[:i], at, api.ErrForm)
		for _, c := range []string{"?", "-", "B", " ", "\r", "\x00", "\xff"} {
			checkWrong(t, a, s[:i]+c+s[i+1:], at, api.ErrForm)
		}
	}
	checkCases(t, a, api.ErrLarge, []textCase{{"1\nb20\n0x1\nx0\n11\n.\n", 3}, {"1\nb12\n0x1\nx0\n11\n.\n", 3}, {"1\nb1020x1\nx0\n11\n.\n", 3}}...)
}

// framesForm is what may stand behind Bad: all of what should, as far as it does, word by word.
func framesForm(a api.Aig) *regexp.Regexp {
	init, ends := "", ""
	for _, l := range a.L {
		may := "[01x]"
		if l.Reset < 2 {
			may = strconv.Itoa(l.Reset)
		}
		init += "(?:" + may
		ends += ")?"
	}
	inputs := strconv.Itoa(a.I)
	whole, some := "[01x]{"+inputs+"}\n", "[01x]{0,"+inputs+"}"
	frames := "(?:" + some + "|((?:" + whole + ")+)(?:" + some + "|(\\.\n)))"
	form := regexp.MustCompile("^(?:\n" + init + "(?:\n" + frames + ")?" + ends + ")?")
	form.Longest()
	return form
}

var figuresForm = regexp.MustCompile("^[0-9]+")

// slowly is Parse by other means: all that stands behind Bad is one expression's longest match, which ends where it is wrong.
func slowly(a api.Aig, form *regexp.Regexp, s string) (api.Trace, int, api.Errno) {
	var none api.Trace
	if len(s) > 100000 {
		return none, 0, api.ErrLarge
	}
	rest, is := strings.CutPrefix(s, "1\nb")
	if !is {
		return none, 0, api.ErrForm
	}
	figures := figuresForm.FindString(rest)
	if figures == "" || figures[0] == '0' && figures != "0" {
		return none, 3, api.ErrForm
	}
	bad, _ := new(big.Int).SetString(figures, 10)
	if bad.Cmp(big.NewInt(int64(len(a.Bad)))) >= 0 {
		return none, 3, api.ErrLarge
	}
	behind := 3 + len(figures)
	m := form.FindStringSubmatchIndex(s[behind:])
	end, isWhole := behind+m[1], m[4] >= 0
	var frames []string
	if m[2] >= 0 {
		frames = strings.SplitAfter(s[behind+m[2]:behind+m[3]], "\n")
		frames = frames[:len(frames)-1]
	}
	if len(frames) > 200 || len(frames) == 200 && !isWhole {
		return none, behind + m[2] + len(strings.Join(frames[:200], "")), api.ErrLarge
	}
	if !isWhole || end < len(s) {
		return none, end, api.ErrForm
	}
	for i := range frames {
		frames[i] = strings.TrimSuffix(frames[i], "\n")
	}
	init := strings.Split(s, "\n")[2]
	return trace(int(bad.Int64()), init, frames...), len(s), api.OK
}

// checkText holds all of P10.2 and P10.4 of one text, and R3: no byte is written.
func checkText(t *testing.T, a api.Aig, form *regexp.Regexp, s string) {
	t.Helper()
	b := []byte(s)
	w, at, e := wit.Parse(a, b)
	want, wantAt, wantE := slowly(a, form, s)
	if at != wantAt || e != wantE || !alike(w, want) {
		t.Fatalf("%q: %v, %d, %d; not %v, %d, %d", s, w, at, e, want, wantAt, wantE)
	}
	if at < 0 || at > len(s) {
		t.Fatalf("%q: %d", s, at)
	}
	if printed, e2 := wit.Print(w); e == api.OK && (printed != s || e2 != api.OK || !wit.Right(a, w)) {
		t.Fatalf("%q: %v is printed as %q", s, w, printed)
	}
	if string(b) != s {
		t.Fatalf("%q became %q", s, b)
	}
}

// P10.2, P10.4: each text that differs in one place from a right one: cut off there, or a byte changed, left out, or put in.
func TestParseNearTexts(t *testing.T) {
	for _, x := range []struct {
		a api.Aig
		s string
	}{
		{modelOf(1, "", 1), "1\nb0\n\n1\n.\n"}, {modelOf(0, "", 1), "1\nb0\n\n\n\n.\n"}, {modelOf(0, "x1", 2), "1\nb1\n01\n\n.\n"}, {modelOf(0, "", 0), "1\nb0\n\n\n.\n"},
		{modelOf(3, "0x1x", 12), "1\nb11\n0x10\n01x\nxxx\n110\n.\n"}, {modelOf(1, "1", 200), "1\nb107\n1\nx\n0\n1\n.\n"}, {modelOf(1, "x", 1), "1\nb0\nx\n" + strings.Repeat("x\n", 199) + "0\n.\n"}, {modelOf(0, "", 1), "1\nb0\n\n" + strings.Repeat("\n", 200) + ".\n"},
	} {
		form := framesForm(x.a)
		if _, at, e := slowly(x.a, form, x.s); len(x.a.Bad) > 0 && (at != len(x.s) || e != api.OK) {
			t.Fatalf("%q: %d, %d", x.s, at, e)
		}
		for at := range len(x.s) + 1 {
			checkText(t, x.a, form, x.s[:at])
			if at < len(x.s) {
				checkText(t, x.a, form, x.s[:at]+x.s[at+1:])
			}
			for c := range 256 {
				if len(x.s) > 100 && strings.IndexByte("01x.\n2b \xff", byte(c)) < 0 {
					continue
				}
				p := string([]byte{byte(c)})
				checkText(t, x.a, form, x.s[:at]+p+x.s[at:])
				if at < len(x.s) {
					checkText(t, x.a, form, x.s[:at]+p+x.s[at+1:])
				}
			}
			for _, p := range []string{"00", "\n\n", ".\n", "1\n", "x\n", "1\nb", "b0", "2147483648", "18446744073709551616"} {
				checkText(t, x.a, form, x.s[:at]+p+x.s[at:])
			}
		}
	}
}

// P10.2, P10.4: all that can stand behind Bad, up to 7 bytes of what texts have.
func TestParseAllShortTexts(t *testing.T) {
	for _, a := range []api.Aig{modelOf(0, "", 1), modelOf(1, "", 1), modelOf(0, "x", 1), modelOf(1, "0", 1), modelOf(2, "", 1)} {
		form := framesForm(a)
		parsed := 0
		for _, s := range allRows("01x.\n", 7) {
			checkText(t, a, form, "1\nb0\n"+s)
			if _, _, e := wit.Parse(a, []byte("1\nb0\n"+s)); e == api.OK {
				parsed++
			}
		}
		if parsed == 0 {
			t.Errorf("%v: none is parsed", a)
		}
	}
}
