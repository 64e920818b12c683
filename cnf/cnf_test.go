package cnf_test

import (
	"bytes"
	"math"
	"math/big"
	"math/rand"
	"regexp"
	"slices"
	"strconv"
	"strings"
	"testing"

	"vidimus/api"
	"vidimus/cnf"
)

// copies is one clause, many times over.
func copies(n int, c ...int) [][]int {
	out := make([][]int, n)
	for i := range out {
		out[i] = c
	}
	return out
}

// ones is a clause of so many literals.
func ones(n int) []int { return slices.Repeat([]int{1}, n) }

// rightFormulas have each edge that a right formula may have, and their texts.
func rightFormulas() map[string]api.Cnf {
	return map[string]api.Cnf{
		"p cnf 0 0\n":                                           {},
		"p cnf 0 1\n0\n":                                        {C: [][]int{{}}},
		"p cnf 0 3\n0\n0\n0\n":                                  {C: copies(3)},
		"p cnf 7 0\n":                                           {N: 7},
		"p cnf 2 1\n1 -2 0\n":                                   {N: 2, C: [][]int{{1, -2}}},
		"p cnf 12 3\n1 -12 0\n0\n5 0\n":                         {N: 12, C: [][]int{{1, -12}, {}, {5}}},
		"p cnf 1 2\n1 -1 1 1 0\n-1 0\n":                         {N: 1, C: [][]int{{1, -1, 1, 1}, {-1}}},
		"p cnf 3 2\n3 2 1 0\n-3 -2 0\n":                         {N: 3, C: [][]int{{3, 2, 1}, {-3, -2}}},
		"p cnf 100000 1\n100000 -9 0\n":                         {N: 100000, C: [][]int{{100000, -9}}},
		"p cnf 100000 1\n-100000 10 0\n":                        {N: 100000, C: [][]int{{-100000, 10}}},
		"p cnf 5 20000\n" + strings.Repeat("0\n", 20000):        {N: 5, C: copies(20000)},
		"p cnf 1 20000\n" + strings.Repeat("1 0\n", 20000):      {N: 1, C: copies(20000, 1)},
		"p cnf 1 1\n" + strings.Repeat("1 ", 1000) + "0\n":      {N: 1, C: [][]int{ones(1000)}},
		"p cnf 1 2\n0\n" + strings.Repeat("1 ", 1000) + "0\n":   {N: 1, C: [][]int{{}, ones(1000)}},
		"p cnf 9 2\n" + strings.Repeat("1 ", 999) + "0\n-9 0\n": {N: 9, C: [][]int{ones(999), {-9}}},
	}
}

// wrongFormulas have each edge that no right formula has.
func wrongFormulas() map[string]api.Cnf {
	return map[string]api.Cnf{
		"N below 0":               {N: -1},
		"the least N":             {N: math.MinInt},
		"N one too many":          {N: 100001},
		"the greatest N":          {N: math.MaxInt},
		"clauses one too many":    {N: 1, C: copies(20001, 1)},
		"empty ones too many":     {N: 1, C: copies(20001)},
		"literals one too many":   {N: 1, C: [][]int{ones(1001)}},
		"too many, behind":        {N: 1, C: [][]int{{1}, {}, ones(1001)}},
		"a literal above N":       {N: 1, C: [][]int{{2}}},
		"a literal below -N":      {N: 1, C: [][]int{{-2}}},
		"a literal of no N":       {C: [][]int{{1}}},
		"a literal 0":             {N: 1, C: [][]int{{0}}},
		"a literal 0 of no N":     {C: [][]int{{0}}},
		"the last literal":        {N: 3, C: [][]int{{1, 2, 3}, {1, 2, 4}}},
		"a 0 behind":              {N: 3, C: [][]int{{1, 2, 0}, {1}}},
		"the greatest literal":    {N: 3, C: [][]int{{math.MaxInt}}},
		"the least literal":       {N: 3, C: [][]int{{math.MinInt}}},
		"a literal goes round":    {N: 3, C: [][]int{{1 << 32}}},
		"above the greatest N":    {N: 100000, C: [][]int{{100001}}},
		"below the greatest N":    {N: 100000, C: [][]int{{-100001}}},
		"N below 0 and a literal": {N: -5, C: [][]int{{1}}},
	}
}

// P3.1: what is right, and its text.
func TestRightIsPrinted(t *testing.T) {
	for text, f := range rightFormulas() {
		if !cnf.Right(f) {
			t.Errorf("not right: %.40q", text)
		}
		if s, e := cnf.Print(f); s != text || e != api.OK {
			t.Errorf("%.40q is printed as %.40q, %d", text, s, e)
		}
	}
}

// P3.1: what isn't right isn't printed.
func TestWrongIsNotPrinted(t *testing.T) {
	for name, f := range wrongFormulas() {
		if cnf.Right(f) {
			t.Errorf("right: %s", name)
		}
		if s, e := cnf.Print(f); s != "" || e != api.ErrArg {
			t.Errorf("%s is printed as %.40q, %d", name, s, e)
		}
	}
}

// P3.1: the greatest formula that there may be is right, and is printed.
func TestGreatestFormula(t *testing.T) {
	f := api.Cnf{N: api.MaxVars, C: copies(api.MaxClauses, ones(api.MaxLits)...)}
	s, e := cnf.Print(f)
	if want := len("p cnf 100000 20000\n") + 20000*2002; len(s) != want || e != api.OK || !cnf.Right(f) {
		t.Errorf("%d bytes for %d, %d", len(s), want, e)
	}
}

// P3.1: the same is all of it, in order, be it right or not.
func TestSame(t *testing.T) {
	all := []api.Cnf{
		{}, {N: 1}, {N: -1}, {C: [][]int{{}}}, {C: [][]int{{}, {}}},
		{N: 2, C: [][]int{{1, 2}}}, {N: 2, C: [][]int{{2, 1}}}, {N: 3, C: [][]int{{1, 2}}},
		{N: 2, C: [][]int{{1}, {2}}}, {N: 2, C: [][]int{{2}, {1}}}, {N: 2, C: [][]int{{1}}},
		{N: 2, C: [][]int{{1, 2}, {}}}, {N: 2, C: [][]int{{}, {1, 2}}}, {N: 2, C: [][]int{{1}, {}, {2}}},
		{N: 2, C: [][]int{{1, 2, 2}}}, {N: 2, C: [][]int{{1, -2}}}, {N: 2, C: [][]int{{0}}},
		{N: 2, C: [][]int{{math.MinInt}}}, {N: 2, C: [][]int{{math.MaxInt}}},
	}
	for i, a := range all {
		for k, b := range all {
			if cnf.Same(a, copyOf(b)) != (i == k) {
				t.Errorf("%v and %v: %v", a, b, i != k)
			}
		}
	}
	if !cnf.Same(api.Cnf{C: [][]int{nil}}, api.Cnf{C: [][]int{{}}}) || !cnf.Same(api.Cnf{}, api.Cnf{C: [][]int{}}) {
		t.Error("a list without elements may be nil")
	}
}

func copyOf(f api.Cnf) api.Cnf {
	out := api.Cnf{N: f.N}
	for _, c := range f.C {
		out.C = append(out.C, slices.Clone(c))
	}
	return out
}

// checkWrong holds that a text is no formula's.
func checkWrong(t *testing.T, text string, at int, e api.Errno) {
	t.Helper()
	f, gotAt, gotE := cnf.Parse([]byte(text))
	if gotAt != at || gotE != e || f.N != 0 || len(f.C) != 0 {
		t.Errorf("%.60q: %v, %d, %d; not %d, %d", text, f, gotAt, gotE, at, e)
	}
}

// P3.2: texts of formulas, with each edge.
func TestParse(t *testing.T) {
	for text, f := range rightFormulas() {
		g, at, e := cnf.Parse([]byte(text))
		if at != len(text) || e != api.OK || !cnf.Same(f, g) {
			t.Errorf("%.40q: %d, %d", text, at, e)
		}
	}
}

// P3.2: what should stand doesn't stand.
func TestParseForm(t *testing.T) {
	for _, x := range []struct {
		text string
		at   int
	}{
		{"", 0}, {"p", 0}, {"p cnf", 0}, {"p cnf\n", 0}, {"P cnf 0 0\n", 0}, {"p  cnf 0 0\n", 0}, {" p cnf 0 0\n", 0},
		{"\np cnf 0 0\n", 0}, {"c\np cnf 0 0\n", 0}, {"p dnf 0 0\n", 0}, {"p\tcnf 0 0\n", 0}, {"p cnf\t0 0\n", 0},
		{"p cnf ", 6}, {"p cnf  0 0\n", 6}, {"p cnf x 0\n", 6}, {"p cnf -1 0\n", 6}, {"p cnf +1 0\n", 6}, {"p cnf -0 0\n", 6},
		{"p cnf 00 0\n", 6}, {"p cnf 01 0\n", 6}, {"p cnf 0999999999999999999999 0\n", 6}, {"p cnf \n", 6},
		{"p cnf 1", 7}, {"p cnf 1\n", 7}, {"p cnf 1x", 7}, {"p cnf 10\t0\n", 8}, {"p cnf 1.0 0\n", 7},
		{"p cnf 1 ", 8}, {"p cnf 1  0\n", 8}, {"p cnf 1 x\n", 8}, {"p cnf 1 -1\n", 8}, {"p cnf 1 01\n", 8}, {"p cnf 1 00\n", 8},
		{"p cnf 1 \n", 8}, {"p cnf 1 020001\n", 8}, {"p cnf 100000 -0\n", 13},
		{"p cnf 1 0", 9}, {"p cnf 1 0 ", 9}, {"p cnf 1 0 \n", 9}, {"p cnf 1 0\r\n", 9}, {"p cnf 1 0x\n", 9},
		{"p cnf 1 1\n", 10}, {"p cnf 1 1\n\n", 10}, {"p cnf 1 1\n 1 0\n", 10}, {"p cnf 1 1\nx", 10}, {"p cnf 1 1\nc\n1 0\n", 10},
		{"p cnf 1 1\n-", 10}, {"p cnf 1 1\n-\n", 10}, {"p cnf 1 1\n--1 0\n", 10}, {"p cnf 1 1\n- 1 0\n", 10}, {"p cnf 1 1\n+1 0\n", 10},
		{"p cnf 1 1\n-0\n", 10}, {"p cnf 1 1\n-0 0\n", 10}, {"p cnf 1 1\n01 0\n", 10}, {"p cnf 1 1\n-01 0\n", 10}, {"p cnf 1 1\n00\n", 10},
		{"p cnf 1 1\n09 0\n", 10}, {"p cnf 1 1\n-09 0\n", 10}, {"p cnf 0 1\n-0\n", 10},
		{"p cnf 1 1\n1", 11}, {"p cnf 1 1\n1\n", 11}, {"p cnf 1 1\n1\n0\n", 11}, {"p cnf 1 1\n1x", 11}, {"p cnf 1 1\n1\t0\n", 11}, {"p cnf 9 1\n1-2 0\n", 11},
		{"p cnf 1 1\n1 ", 12}, {"p cnf 1 1\n1  0\n", 12}, {"p cnf 1 1\n1 \n0\n", 12}, {"p cnf 1 1\n1 -0\n", 12}, {"p cnf 1 1\n-1  0\n", 13},
		{"p cnf 1 1\n1 00\n", 12}, {"p cnf 1 1\n1 0", 13}, {"p cnf 1 1\n1 0 ", 13}, {"p cnf 1 1\n1 0 \n", 13}, {"p cnf 1 1\n1 0\r\n", 13}, {"p cnf 1 1\n1 0 1 0\n", 13},
		{"p cnf 1 1\n0", 11}, {"p cnf 1 1\n0 \n", 11}, {"p cnf 1 1\n0x\n", 11}, {"p cnf 0 1\n0", 11},
		{"p cnf 1 2\n1 0\n", 14}, {"p cnf 1 2\n1 0\n\n1 0\n", 14}, {"p cnf 1 20000\n1 0\n", 18},
		{"p cnf 1 1\n1 0\n\n", 14}, {"p cnf 1 1\n1 0\n1 0\n", 14}, {"p cnf 1 1\n1 0\n ", 14}, {"p cnf 1 1\n1 0\n\x00", 14}, {"p cnf 1 1\n1 0\n9", 14},
		{"p cnf 1 0\n\n", 10}, {"p cnf 1 0\n1 0\n", 10}, {"p cnf 0 0\n0\n", 10}, {"p cnf 0 0\np cnf 0 0\n", 10},
		{"\xff", 0}, {"p cnf \xff", 6}, {"p cnf 1 1\n\xff", 10},
	} {
		checkWrong(t, x.text, x.at, api.ErrForm)
	}
}

// P3.2: numbers that are too great, and literals that are too many.
func TestParseLarge(t *testing.T) {
	full := strings.Repeat("1 ", 1000)
	for _, x := range []struct {
		text string
		at   int
	}{
		{"p cnf 100001 0\n", 6}, {"p cnf 100001", 6}, {"p cnf 100001x", 6}, {"p cnf 2147483648 0\n", 6}, {"p cnf 4294967297 0\n", 6},
		{"p cnf 18446744073709551617 0\n", 6}, {"p cnf " + strings.Repeat("9", 5000), 6},
		{"p cnf 1 20001\n", 8}, {"p cnf 1 20001x", 8}, {"p cnf 100000 100000\n", 13}, {"p cnf 1 18446744073709551617\n1 0\n", 8},
		{"p cnf 1 1\n2 0\n", 10}, {"p cnf 1 1\n-2 0\n", 10}, {"p cnf 0 1\n1 0\n", 10}, {"p cnf 0 1\n-1 0\n", 10}, {"p cnf 1 1\n2", 10}, {"p cnf 1 1\n-2x", 10},
		{"p cnf 12 1\n12 -12 13 0\n", 18}, {"p cnf 12 1\n12 -12 -13 0\n", 18}, {"p cnf 1 2\n1 0\n1 -2 0\n", 16},
		{"p cnf 100000 1\n100001 0\n", 15}, {"p cnf 100000 1\n-100001 0\n", 15}, {"p cnf 9 1\n18446744073709551617 0\n", 10},
		{"p cnf 9 1\n-18446744073709551617 0\n", 10},
		{"p cnf 1 1\n" + full + "1 0\n", 2010}, {"p cnf 1 1\n" + full + "-1 0\n", 2010}, {"p cnf 1 1\n" + full + "1", 2010},
		{"p cnf 1 1\n" + full + "1x", 2010}, {"p cnf 1 1\n" + full + "-1\n", 2010}, {"p cnf 1 1\n" + full + "2 0\n", 2010},
		{"p cnf 1 1\n" + full + "1 1 1 1 x", 2010}, {"p cnf 1 2\n1 0\n" + full + "1 0\n", 2014}, {"p cnf 1 2\n" + full + "0\n" + full + "1 0\n", 4012},
	} {
		checkWrong(t, x.text, x.at, api.ErrLarge)
	}
}

// P3.2: what is no literal is not one too many.
func TestParseBehindFullClause(t *testing.T) {
	full := "p cnf 1 1\n" + strings.Repeat("1 ", 1000)
	for _, text := range []string{"", "x", "\n", "01 0\n", "-0\n", "-", "00\n", " 0\n"} {
		checkWrong(t, full+text, 2010, api.ErrForm)
	}
	checkWrong(t, full+"0", 2011, api.ErrForm)
	checkWrong(t, full+"0 ", 2011, api.ErrForm)
}

// P3.2: of several wrong things the first one from the left is told.
func TestParseFirstWrong(t *testing.T) {
	checkWrong(t, "p cnf x 20001\n", 6, api.ErrForm)
	checkWrong(t, "p cnf 100001 x\n", 6, api.ErrLarge)
	checkWrong(t, "p cnf 1 x\n2 0\n", 8, api.ErrForm)
	checkWrong(t, "p cnf 1 20001 \n2 0\n", 8, api.ErrLarge)
	checkWrong(t, "p cnf 1 1 \n2 0\n", 9, api.ErrForm)
	checkWrong(t, "p cnf 1 1\n2  0\n", 10, api.ErrLarge)
	checkWrong(t, "p cnf 1 1\n1  2 0\n", 12, api.ErrForm)
	checkWrong(t, "p cnf 1 1\n1 0 2 0\n", 13, api.ErrForm)
	checkWrong(t, "p cnf 1 1\n1 0\n2 0\n", 14, api.ErrForm)
}

// P3.2: a text that ends early is wrong where what is missing begins.
func TestParseEndsEarly(t *testing.T) {
	text := "p cnf 12 2\n1 -12 0\n0\n"
	places := []int{0, 0, 0, 0, 0, 0, 6, 7, 8, 9, 10, 11, 12, 13, 13, 15, 16, 17, 18, 19, 20}
	if len(places) != len(text) {
		t.Fatal("a place of each early end")
	}
	for end, at := range places {
		checkWrong(t, text[:end], at, api.ErrForm)
	}
}

// P3.2: MaxBytes and one more.
func TestParseMaxBytes(t *testing.T) {
	// Long clauses first; what is left to 100000 bytes is told by empty ones, and an odd byte by a -.
	row := strings.Repeat("99999 ", 900) + "0\n"
	text := strings.Repeat(row, 18)
	rest := api.MaxBytes - len("p cnf 99999 1000\n") - len(text)
	empty := rest / 2
	head := "p cnf 99999 " + strconv.Itoa(18+empty) + "\n"
	text = head + text + strings.Repeat("0\n", empty)
	for len(text) < api.MaxBytes {
		text = strings.Replace(text, "\n9", "\n-9", 1)
	}
	f, at, e := cnf.Parse([]byte(text))
	if len(text) != api.MaxBytes || at != api.MaxBytes || e != api.OK || len(f.C) != 18+empty {
		t.Errorf("of %d bytes: %d, %d", len(text), at, e)
	}
	checkWrong(t, text+"\n", 0, api.ErrLarge)
	checkWrong(t, text[:len(text)-1], len(text)-1, api.ErrForm)
	longer := strings.Replace(text, " 9", " -9", 1)
	checkWrong(t, longer, 0, api.ErrLarge)
	checkWrong(t, strings.Repeat("x", api.MaxBytes), 0, api.ErrForm)
	checkWrong(t, strings.Repeat("x", api.MaxBytes+1), 0, api.ErrLarge)
	checkWrong(t, "p cnf 100001"+strings.Repeat(" ", api.MaxBytes), 0, api.ErrLarge)
	checkWrong(t, "p cnf 0 0\n"+strings.Repeat(" ", api.MaxBytes-10), 10, api.ErrForm)
}

// slow is Parse by other means: what stands there is cut off by expressions, and numbers have any size.
type slow struct {
	text string
	at   int
	e    api.Errno
}

func (s *slow) word(w string) {
	if s.e == api.OK && !strings.HasPrefix(s.text[s.at:], w) {
		s.e = api.ErrForm
	}
	if s.e == api.OK {
		s.at += len(w)
	}
}

var (
	figuresForm = regexp.MustCompile(`^-?[0-9]+`)
	numberForm  = regexp.MustCompile(`^(0|[1-9][0-9]*)$`)
	literalForm = regexp.MustCompile(`^(0|-?[1-9][0-9]*)$`)
)

func (s *slow) number(form *regexp.Regexp, most, room int) int {
	if s.e != api.OK {
		return 0
	}
	figures := figuresForm.FindString(s.text[s.at:])
	if !form.MatchString(figures) {
		s.e = api.ErrForm
		return 0
	}
	n, _ := new(big.Int).SetString(figures, 10)
	if n.CmpAbs(big.NewInt(int64(most))) > 0 || n.Sign() != 0 && room == 0 {
		s.e = api.ErrLarge
		return 0
	}
	s.at += len(figures)
	return int(n.Int64())
}

func slowParse(text string) (api.Cnf, int, api.Errno) {
	s := &slow{text: text}
	s.word("p cnf ")
	n := s.number(numberForm, 100000, 1)
	s.word(" ")
	count := s.number(numberForm, 20000, 1)
	s.word("\n")
	f := api.Cnf{N: n}
	for len(f.C) < count && s.e == api.OK {
		var c []int
		for s.e == api.OK {
			x := s.number(literalForm, n, 1000-len(c))
			if x == 0 {
				break
			}
			s.word(" ")
			c = append(c, x)
		}
		s.word("\n")
		f.C = append(f.C, c)
	}
	if s.e == api.OK && s.at < len(text) {
		s.e = api.ErrForm
	}
	if s.e != api.OK {
		f = api.Cnf{}
	}
	return f, s.at, s.e
}

// checkText holds all of P3.2 and P3.5 of one text, and R3: no byte is written.
func checkText(t *testing.T, text string) {
	t.Helper()
	b := []byte(text)
	f, at, e := cnf.Parse(b)
	g, wantAt, wantE := slowParse(text)
	if at != wantAt || e != wantE || !cnf.Same(f, g) {
		t.Fatalf("%q: %v, %d, %d; not %v, %d, %d", text, f, at, e, g, wantAt, wantE)
	}
	if at < 0 || at > len(text) {
		t.Fatalf("%q: place %d", text, at)
	}
	if e == api.OK {
		if s, _ := cnf.Print(f); s != text || !cnf.Right(f) {
			t.Fatalf("%q is printed as %q", text, s)
		}
	}
	if string(b) != text {
		t.Fatalf("%q became %q", text, b)
	}
}

// P3.2, P3.5: each text that differs in one place from a right one: a byte changed, left out, or put in.
func TestParseNearTexts(t *testing.T) {
	for _, text := range []string{
		"p cnf 0 0\n", "p cnf 0 2\n0\n0\n", "p cnf 2 1\n1 -2 0\n", "p cnf 12 3\n1 -12 0\n0\n5 10 -1 0\n", "p cnf 100000 1\n100000 -99999 0\n",
	} {
		for at := range len(text) + 1 {
			checkText(t, text[:at])
			if at < len(text) {
				checkText(t, text[:at]+text[at+1:])
			}
			for _, p := range "0192- \n\r\tpx\x00\u00ff" {
				checkText(t, text[:at]+string(p)+text[at:])
				if at < len(text) {
					checkText(t, text[:at]+string(p)+text[at+1:])
				}
			}
		}
	}
}

// P3.2, P3.5: every row of up to 5 of these pieces behind a first line.
func TestParseAllTexts(t *testing.T) {
	pieces := []string{"0", "1", "2", "-", " ", "\n", "0\n", "1 "}
	rows := []string{""}
	for range 6 {
		var longer []string
		for _, row := range rows {
			checkText(t, "p cnf 1 1\n"+row)
			checkText(t, "p cnf 1 2\n1 0\n"+row)
			for _, p := range pieces {
				longer = append(longer, row+p)
			}
		}
		rows = longer
	}
}

// randomFormula is some right formula.
func randomFormula(r *rand.Rand) api.Cnf {
	f := api.Cnf{N: r.Intn(30)}
	if r.Intn(3) == 0 {
		f.N = r.Intn(api.MaxVars + 1)
	}
	for range r.Intn(20) {
		var c []int
		for range r.Intn(8) {
			x := r.Intn(f.N+1) * (1 - 2*r.Intn(2))
			if x != 0 {
				c = append(c, x)
			}
		}
		f.C = append(f.C, c)
	}
	return f
}

// P3.5: what is printed is parsed, and nothing that was handed in is changed.
func TestPrintedIsParsed(t *testing.T) {
	r := rand.New(rand.NewSource(1))
	for range 3000 {
		f := randomFormula(r)
		before := copyOf(f)
		s, e := cnf.Print(f)
		if e != api.OK {
			t.Fatalf("%v: %d", f, e)
		}
		g, at, e := cnf.Parse([]byte(s))
		if at != len(s) || e != api.OK || !cnf.Same(f, g) {
			t.Fatalf("%v: %v, %d, %d", f, g, at, e)
		}
		if !cnf.Same(f, before) {
			t.Fatalf("%v became %v", before, f)
		}
		checkText(t, s)
	}
}

// P3.5: what is printed and longer than MaxBytes is not parsed.
func TestPrintedTooLong(t *testing.T) {
	f := api.Cnf{N: api.MaxVars, C: copies(api.MaxClauses, api.MaxVars)}
	s, e := cnf.Print(f)
	if e != api.OK {
		t.Fatal(e)
	}
	checkWrong(t, s, 0, api.ErrLarge)
}

// R3: clauses that are parsed share no memory with the text, nor with each other.
func TestParsedStandsAlone(t *testing.T) {
	b := []byte("p cnf 9 3\n1 2 3 0\n4 5 0\n6 0\n")
	f, _, _ := cnf.Parse(b)
	clear(b)
	for i, c := range f.C {
		f.C[i] = append(c, 7, 7, 7, 7)
	}
	want := [][]int{{1, 2, 3, 7, 7, 7, 7}, {4, 5, 7, 7, 7, 7}, {6, 7, 7, 7, 7}}
	if !cnf.Same(f, api.Cnf{N: 9, C: want}) {
		t.Error(f)
	}
}

// P3.3: a model's text, and back.
func TestModels(t *testing.T) {
	for text, m := range map[string][]bool{
		"v 0\n":                          nil,
		"v 1 0\n":                        {true},
		"v -1 0\n":                       {false},
		"v 1 -2 3 0\n":                   {true, false, true},
		"v -1 -2 -3 4 0\n":               {false, false, false, true},
		"v 1 2 3 4 5 6 7 8 9 -10 11 0\n": {true, true, true, true, true, true, true, true, true, false, true},
	} {
		if s := cnf.PrintModel(m); s != text {
			t.Errorf("%v is printed as %q", m, s)
		}
		if got, at, e := cnf.ParseModel([]byte(text), len(m)); at != len(text) || e != api.OK || !slices.Equal(got, m) {
			t.Errorf("%q: %v, %d, %d", text, got, at, e)
		}
	}
}

// P3.3: a model of MaxVars variables, whose text is longer than MaxBytes, and one more than that.
func TestGreatestModel(t *testing.T) {
	for _, n := range []int{99, 100, 9999, api.MaxVars, api.MaxVars + 1} {
		m := make([]bool, n)
		var want bytes.Buffer
		want.WriteString("v")
		for i := range m {
			m[i] = i%3 == 0
			x := -(i + 1)
			if m[i] {
				x = i + 1
			}
			want.WriteString(" " + strconv.Itoa(x))
		}
		want.WriteString(" 0\n")
		s := cnf.PrintModel(m)
		if s != want.String() {
			t.Errorf("of %d: another text", n)
		}
		got, at, e := cnf.ParseModel([]byte(s), n)
		if at != len(s) || e != api.OK || !slices.Equal(got, m) {
			t.Errorf("of %d: %d, %d", n, at, e)
		}
	}
}

// checkNoModel holds that a text is no model's of n variables.
func checkNoModel(t *testing.T, text string, n, at int) {
	t.Helper()
	m, gotAt, e := cnf.ParseModel([]byte(text), n)
	if len(m) != 0 || gotAt != at || e != api.ErrForm {
		t.Errorf("%.60q of %d: %v, %d, %d; not %d", text, n, m, gotAt, e, at)
	}
}

// P3.3: what should stand there doesn't stand.
func TestParseModelForm(t *testing.T) {
	for _, x := range []struct {
		text  string
		n, at int
	}{
		{"", 0, 0}, {"v", 0, 0}, {"v\n", 0, 0}, {"0\n", 0, 0}, {"V 0\n", 0, 0}, {" v 0\n", 0, 0}, {"v\t0\n", 0, 0}, {"s SATISFIABLE\nv 0\n", 0, 0}, {"v", 1, 0},
		{"v ", 0, 2}, {"v 0", 0, 2}, {"v 0 ", 0, 2}, {"v 0 \n", 0, 2}, {"v 0\r\n", 0, 2}, {"v -0\n", 0, 2}, {"v 00\n", 0, 2}, {"v  0\n", 0, 2}, {"v 1 0\n", 0, 2}, {"v \n", 0, 2},
		{"v 0\n\n", 0, 4}, {"v 0\nv 0\n", 0, 4}, {"v 0\n\x00", 0, 4}, {"v 1 0\n ", 1, 6}, {"v 1 0\n0\n", 1, 6},
		{"v 0\n", 1, 2}, {"v ", 1, 2}, {"v  1 0\n", 1, 2}, {"v 1", 1, 2}, {"v 1\n", 1, 2}, {"v 1\t0\n", 1, 2}, {"v 01 0\n", 1, 2}, {"v 2 0\n", 1, 2}, {"v +1 0\n", 1, 2}, {"v 11 0\n", 1, 2},
		{"v -", 1, 3}, {"v -1", 1, 3}, {"v -1\n", 1, 3}, {"v --1 0\n", 1, 3}, {"v - 1 0\n", 1, 3}, {"v -01 0\n", 1, 3}, {"v -2 0\n", 1, 3}, {"v -0\n", 1, 3}, {"v -\n", 1, 3},
		{"v 1 ", 1, 4}, {"v 1 0", 1, 4}, {"v 1 -0\n", 1, 4}, {"v 1 00\n", 1, 4}, {"v 1  0\n", 1, 4}, {"v 1 2 0\n", 1, 4}, {"v 1 -2 0\n", 1, 4}, {"v 1 0 \n", 1, 4}, {"v -1 \n", 1, 5},
		{"v 1 0\n", 2, 4}, {"v 1 -0\n", 2, 5}, {"v 1 1 0\n", 2, 4}, {"v 1 -1 0\n", 2, 5}, {"v 2 1 0\n", 2, 2}, {"v -2 -1 0\n", 2, 3}, {"v 1-2 0\n", 2, 2},
		{"v 1 -2 0\n", 3, 7}, {"v 1 2 3 4 0\n", 3, 8}, {"v 1 2 3 0", 3, 8}, {"v 1 2 3 -0\n", 3, 8},
		{"v 1 0\n", api.MaxVars, 4}, {"v 0\n", api.MaxVars, 2}, {"\xff", 0, 0}, {"v \xff", 0, 2},
	} {
		checkNoModel(t, x.text, x.n, x.at)
	}
	checkNoModel(t, strings.Repeat("v", api.MaxBytes+1), 0, 0)
}

// P3.3: a text that ends early is wrong where what is missing begins.
func TestParseModelEndsEarly(t *testing.T) {
	text := "v 1 -2 -3 0\n"
	places := []int{0, 0, 2, 2, 4, 5, 5, 7, 8, 8, 10, 10}
	if len(places) != len(text) {
		t.Fatal("a place of each early end")
	}
	for end, at := range places {
		checkNoModel(t, text[:end], 3, at)
	}
}

// R1: the call ends without a model at numbers of variables that may not be.
func TestParseModelOfNoNumber(t *testing.T) {
	for _, n := range []int{-1, -2, math.MinInt} {
		checkNoModel(t, "v 0\n", n, 0)
		checkNoModel(t, "", n, 0)
	}
	checkNoModel(t, "v 1 0\n", math.MaxInt, 4)
}

// P3.3, P3.5: a text that is taken is the model's, at each text near a model's, and no byte is written.
func TestParseModelNearTexts(t *testing.T) {
	check := func(text string, n int) {
		b := []byte(text)
		m, at, e := cnf.ParseModel(b, n)
		if at < 0 || at > len(text) || e != api.OK && (e != api.ErrForm || len(m) != 0) {
			t.Fatalf("%q of %d: %v, %d, %d", text, n, m, at, e)
		}
		if e == api.OK && (len(m) != n || at != len(text) || cnf.PrintModel(m) != text) {
			t.Fatalf("%q of %d: %v, %d", text, n, m, at)
		}
		if string(b) != text {
			t.Fatalf("%q became %q", text, b)
		}
	}
	for _, text := range []string{"v 0\n", "v 1 0\n", "v -1 2 0\n", "v 1 -2 -3 4 0\n"} {
		for n := range 6 {
			for at := range len(text) {
				check(text[:at], n)
				check(text[:at]+text[at+1:], n)
				for _, p := range "01234- \nvx" {
					check(text[:at]+string(p)+text[at+1:], n)
					check(text[:at]+string(p)+text[at:], n)
				}
			}
			check(text, n)
		}
	}
}

// P3.3, R3: printing writes nothing into the model, and what is parsed is memory of its own.
func TestModelsStandAlone(t *testing.T) {
	m := []bool{true, false}
	cnf.PrintModel(m)
	if !m[0] || m[1] {
		t.Error(m)
	}
	b := []byte("v 1 -2 0\n")
	one, _, _ := cnf.ParseModel(b, 2)
	one[0] = false
	two, _, _ := cnf.ParseModel(b, 2)
	if !two[0] || two[1] {
		t.Error(two)
	}
}

// P3.4: which literals are true, and what a clause has.
func TestClause(t *testing.T) {
	m := []bool{true, false, true}
	for _, x := range []struct {
		c  []int
		is bool
	}{
		{nil, false}, {[]int{}, false}, {[]int{1}, true}, {[]int{-1}, false}, {[]int{2}, false}, {[]int{-2}, true}, {[]int{3}, true}, {[]int{-3}, false},
		{[]int{4}, false}, {[]int{-4}, false}, {[]int{100000}, false}, {[]int{-100000}, false}, {[]int{0}, false},
		{[]int{math.MaxInt}, false}, {[]int{math.MinInt}, false}, {[]int{math.MinInt + 1}, false},
		{[]int{-1, 2, -3}, false}, {[]int{-1, 2, 3}, true}, {[]int{-1, -2, -3}, true}, {[]int{1, 2, -3}, true}, {[]int{1, -1}, true}, {[]int{2, -2}, true},
		{[]int{4, -4}, false}, {[]int{4, -5, 0, 9, 3}, true}, {[]int{4, -5, 0, 9, -3}, false}, {[]int{2, 2, 2}, false},
	} {
		before := slices.Clone(x.c)
		if is := cnf.Clause(x.c, m); is != x.is {
			t.Errorf("%v: %v", x.c, is)
		}
		if !slices.Equal(before, x.c) || !m[0] || m[1] || !m[2] {
			t.Errorf("%v became %v, %v", before, x.c, m)
		}
	}
	for _, c := range [][]int{nil, {1}, {-1}, {0}, {1, -1}, {math.MinInt}, {math.MaxInt}} {
		if cnf.Clause(c, nil) {
			t.Errorf("%v is true in no model", c)
		}
	}
}

// P3.4: a formula holds, if each clause does.
func TestHolds(t *testing.T) {
	m := []bool{true, false, true}
	for _, x := range []struct {
		f  api.Cnf
		is bool
	}{
		{api.Cnf{}, true}, {api.Cnf{N: 9}, true}, {api.Cnf{N: 3, C: [][]int{{}}}, false}, {api.Cnf{N: 3, C: [][]int{{1}, {-2}}}, true},
		{api.Cnf{N: 3, C: [][]int{{1}, {2}}}, false}, {api.Cnf{N: 3, C: [][]int{{2}, {1}}}, false}, {api.Cnf{N: 3, C: [][]int{{1}, {}, {3}}}, false},
		{api.Cnf{N: 3, C: [][]int{{1}, {3}, {}}}, false}, {api.Cnf{N: 3, C: [][]int{{2, 3}, {-1, -2}, {1, 2, 3}}}, true},
		{api.Cnf{N: 9, C: [][]int{{1}, {9}}}, false}, {api.Cnf{N: 9, C: [][]int{{1}, {-9}}}, false}, {api.Cnf{N: 9, C: [][]int{{1, 9}, {-9, 3}}}, true},
		{api.Cnf{N: 9, C: [][]int{{9, -9}}}, false}, {api.Cnf{N: 1, C: [][]int{{3}}}, true},
	} {
		if is := cnf.Holds(x.f, m); is != x.is {
			t.Errorf("%v: %v", x.f, is)
		}
	}
	if !cnf.Holds(api.Cnf{}, nil) || cnf.Holds(api.Cnf{C: [][]int{{}}}, nil) || cnf.Holds(api.Cnf{N: 1, C: [][]int{{1, -1}}}, nil) {
		t.Error("no model")
	}
}

// P3.4: held against the truth of each literal, one by one, in all models of some formulas.
func TestHoldsInAllModels(t *testing.T) {
	r := rand.New(rand.NewSource(2))
	for range 300 {
		f := api.Cnf{N: 4}
		for range r.Intn(6) {
			var c []int
			for range r.Intn(4) {
				c = append(c, (1+r.Intn(5))*(1-2*r.Intn(2)))
			}
			f.C = append(f.C, c)
		}
		for bits := range 16 {
			m := []bool{bits&1 > 0, bits&2 > 0, bits&4 > 0, bits&8 > 0}
			truth := map[int]bool{}
			for i, is := range m {
				truth[i+1], truth[-i-1] = is, !is
			}
			all := true
			for _, c := range f.C {
				some := false
				for _, x := range c {
					some = some || truth[x]
				}
				all = all && some
			}
			if cnf.Holds(f, m) != all {
				t.Fatalf("%v in %v: %v", f, m, !all)
			}
		}
	}
}
