package drup_test

import (
	"math"
	"math/big"
	"math/rand"
	"regexp"
	"slices"
	"strings"
	"testing"

	"vidimus/api"
	"vidimus/drup"
)

func add(c ...int) api.Step { return api.Step{C: c} }

func take(c ...int) api.Step { return api.Step{Del: true, C: c} }

// many is one step, so many times over.
func many(n int, s api.Step) []api.Step { return slices.Repeat([]api.Step{s}, n) }

// long is a clause of so many literals.
func long(n int) []int { return slices.Repeat([]int{1}, n) }

// cloned is a proof in memory of its own.
func cloned(p []api.Step) []api.Step {
	out := slices.Clone(p)
	for i, s := range out {
		out[i].C = slices.Clone(s.C)
	}
	return out
}

type text struct {
	n int
	p []api.Step
}

// rightProofs have each edge that a right proof may have, by their texts.
func rightProofs() map[string]text {
	const most, lits, vars = api.MaxClauses, api.MaxLits, api.MaxVars
	return map[string]text{
		"":                                 {0, nil},
		"0\n":                              {0, []api.Step{add()}},
		"d 0\n":                            {0, []api.Step{take()}},
		"d 0\n0\nd 0\n":                    {0, []api.Step{take(), add(), take()}},
		"1 0\n0\n":                         {2, []api.Step{add(1), add()}},
		"d 1 0\n":                          {1, []api.Step{take(1)}},
		"d -12 3 0\n12 -1 12 1 0\n":        {12, []api.Step{take(-12, 3), add(12, -1, 12, 1)}},
		"3 2 1 0\n1 2 3 0\n":               {3, []api.Step{add(3, 2, 1), add(1, 2, 3)}},
		"100000 -100000 0\n":               {vars, []api.Step{add(vars, -vars)}},
		"d -100000 99999 0\n":              {vars, []api.Step{take(-vars, 99999)}},
		strings.Repeat("0\n", most):        {0, many(most, add())},
		strings.Repeat("d 0\n", most):      {5, many(most, take())},
		strings.Repeat("1 0\n", most):      {1, many(most, add(1))},
		strings.Repeat("1 ", lits) + "0\n": {1, []api.Step{add(long(lits)...)}},
		"d " + strings.Repeat("1 ", lits) + "0\n0\n": {1, []api.Step{take(long(lits)...), add()}},
	}
}

// P5.1: what is right, its text, and back.
func TestRightProofs(t *testing.T) {
	for s, x := range rightProofs() {
		before := cloned(x.p)
		if !drup.Right(x.n, x.p) {
			t.Errorf("not right: %.40q", s)
		}
		if got := drup.Print(x.p); got != s {
			t.Errorf("%.40q is printed as %.40q", s, got)
		}
		p, at, e := drup.Parse([]byte(s), x.n)
		if at != len(s) || e != api.OK || !drup.Same(p, x.p) || !drup.Same(x.p, p) {
			t.Errorf("%.40q: %d, %d", s, at, e)
		}
		if !drup.Same(x.p, before) {
			t.Errorf("%.40q: a step was changed", s)
		}
	}
}

// P5.1: what isn't right.
func TestWrongProofs(t *testing.T) {
	for name, x := range map[string]text{
		"n below 0":                 {-1, nil},
		"n below 0, and a step":     {-1, []api.Step{add()}},
		"n below 0, and a literal":  {-5, []api.Step{add(1)}},
		"the least n":               {math.MinInt, nil},
		"n one too many":            {api.MaxVars + 1, nil},
		"n one too many, a literal": {api.MaxVars + 1, []api.Step{add(1)}},
		"the greatest n":            {math.MaxInt, nil},
		"steps one too many":        {1, many(api.MaxClauses+1, add(1))},
		"taken one too many":        {1, many(api.MaxClauses+1, take())},
		"literals one too many":     {1, []api.Step{add(long(api.MaxLits + 1)...)}},
		"too many, taken":           {1, []api.Step{add(), take(long(api.MaxLits + 1)...)}},
		"a literal above n":         {1, []api.Step{add(2)}},
		"a literal below -n":        {1, []api.Step{add(-2)}},
		"above n, taken":            {1, []api.Step{add(1), take(1, 2)}},
		"a literal of no n":         {0, []api.Step{add(1)}},
		"a literal 0":               {1, []api.Step{add(0)}},
		"a literal 0 of no n":       {0, []api.Step{take(0)}},
		"a 0 behind":                {3, []api.Step{add(1, 2, 0), add()}},
		"behind the empty one":      {3, []api.Step{add(), add(4)}},
		"the greatest literal":      {3, []api.Step{add(math.MaxInt)}},
		"the least literal":         {3, []api.Step{add(math.MinInt)}},
		"above MaxVars":             {api.MaxVars, []api.Step{add(api.MaxVars + 1)}},
	} {
		if drup.Right(x.n, x.p) {
			t.Errorf("right: %s", name)
		}
	}
}

// P5.1: the greatest proof that there may be is right, and is printed.
func TestGreatestProof(t *testing.T) {
	p := many(api.MaxClauses, take(long(api.MaxLits)...))
	if s := drup.Print(p); len(s) != api.MaxClauses*(2*api.MaxLits+4) || !drup.Right(api.MaxVars, p) {
		t.Errorf("%d bytes", len(s))
	}
}

// P5.1: the same is all of it, in order, be it right or not.
func TestSame(t *testing.T) {
	all := [][]api.Step{
		nil, {add()}, {take()}, {add(), add()}, {add(), take()}, {take(), add()},
		{add(1)}, {take(1)}, {add(-1)}, {add(1, 2)}, {add(2, 1)}, {add(1, 1)}, {add(1), add(2)}, {add(2), add(1)}, {add(1), add()}, {add(), add(1)},
		{add(1), take(2)}, {add(0)}, {add(math.MinInt)}, {add(math.MaxInt)}, {add(1), add(2), add(3)}, {add(1), add(2), take(3)},
	}
	for i, a := range all {
		for k, b := range all {
			if drup.Same(a, cloned(b)) != (i == k) {
				t.Errorf("%v and %v: %v", a, b, i != k)
			}
		}
	}
	if !drup.Same([]api.Step{{C: nil}}, []api.Step{{C: []int{}}}) || !drup.Same(nil, []api.Step{}) {
		t.Error("a list without elements may be nil")
	}
}

// checkWrong holds that a text is no proof's of n variables.
func checkWrong(t *testing.T, s string, n, at int, e api.Errno) {
	t.Helper()
	p, gotAt, gotE := drup.Parse([]byte(s), n)
	if p != nil || gotAt != at || gotE != e {
		t.Errorf("%.60q of %d: %.60v, %d, %d; not %d, %d", s, n, p, gotAt, gotE, at, e)
	}
}

// P5.1: what should stand doesn't stand.
func TestParseForm(t *testing.T) {
	for _, x := range []struct {
		s  string
		at int
	}{
		{"\n", 0}, {" ", 0}, {"x", 0}, {"-", 0}, {"+1 0\n", 0}, {"--1 0\n", 0}, {"- 1 0\n", 0}, {"-0\n", 0}, {"00\n", 0}, {"01 0\n", 0}, {"-01 0\n", 0}, {" 0\n", 0}, {"\xff", 0}, {"\x00", 0}, {"a 1 0\n", 0}, {"p cnf 1 0\n", 0}, {"c\n", 0},
		{"d", 0}, {"d\n", 0}, {"d1 0\n", 0}, {"d0\n", 0}, {"d-1 0\n", 0}, {"d\t1 0\n", 0}, {"D 1 0\n", 0}, {"dd 1 0\n", 0}, {" d 1 0\n", 0}, {"-d 1 0\n", 0},
		{"d ", 2}, {"d  1 0\n", 2}, {"d  0\n", 2}, {"d \n", 2}, {"d d 1 0\n", 2}, {"d x", 2}, {"d -0\n", 2}, {"d 00\n", 2},
		{"1 d 0\n", 2}, {"1 d 1 0\n", 2}, {"1 0 d\n", 3}, {"1 0d 1 0\n", 3}, {"1d 0\n", 1}, {"d 1 d 0\n", 4}, {"0 d 0\n", 1}, {"0d 0\n", 1},
		{"0", 1}, {"0 ", 1}, {"0 \n", 1}, {"0\r\n", 1}, {"0x\n", 1}, {"d 0", 3}, {"d 0 \n", 3}, {"d 0\r\n", 3},
		{"1", 1}, {"1\n", 1}, {"1\n0\n", 1}, {"1\t0\n", 1}, {"1x", 1}, {"1-2 0\n", 1}, {"d 1", 3}, {"d 1\n", 3}, {"d -1\n", 4},
		{"1 ", 2}, {"1  0\n", 2}, {"1 \n0\n", 2}, {"1 -0\n", 2}, {"1 00\n", 2}, {"1 x\n", 2}, {"-1  0\n", 3},
		{"1 0", 3}, {"1 0 ", 3}, {"1 0 \n", 3}, {"1 0\r\n", 3}, {"1 0 1 0\n", 3}, {"1 -2 0", 6}, {"d 1 -2 0", 8},
		{"1 0\n\n", 4}, {"1 0\n ", 4}, {"1 0\nx", 4}, {"1 0\n\x00", 4}, {"1 0\n\n1 0\n", 4}, {"1 0\n2", 5}, {"1 0\n2 ", 6}, {"1 0\n2 0", 7}, {"0\n\n", 2}, {"0\n0", 3},
		{"1 0\nd", 4}, {"1 0\nd ", 6}, {"1 0\nd1 0\n", 4}, {"1 0\nd  0\n", 6}, {"1 0\nd 0", 7}, {"d 1 0\nx", 6}, {"d 1 0\nd", 6}, {"d 1 0\n\n", 6},
	} {
		checkWrong(t, x.s, 2, x.at, api.ErrForm)
	}
}

// P5.1: literals that are too great, and clauses of too many.
func TestParseLarge(t *testing.T) {
	full := strings.Repeat("1 ", api.MaxLits)
	for _, x := range []struct {
		s     string
		n, at int
	}{
		{"3 0\n", 2, 0}, {"-3 0\n", 2, 0}, {"3", 2, 0}, {"-3x", 2, 0}, {"1 3 0\n", 2, 2}, {"1 -2 -3 0\n", 2, 5}, {"d 3 0\n", 2, 2}, {"d -3 0\n", 2, 2}, {"d 1 3 0\n", 2, 4},
		{"1 0\n3 0\n", 2, 4}, {"0\n3 0\n", 2, 2}, {"0\nd 1 3 0\n", 2, 6}, {"1 0\nd -3", 2, 6}, {"12 -12 13 0\n", 12, 7}, {"12 -12 -13 0\n", 12, 7},
		{"1 0\n", 0, 0}, {"-1 0\n", 0, 0}, {"0\n1 0\n", 0, 2}, {"d 1 0\n", 0, 2}, {"100001 0\n", api.MaxVars, 0}, {"-100001 0\n", api.MaxVars, 0}, {"1 100001", api.MaxVars, 2},
		{"2147483648 0\n", 2, 0}, {"4294967297 0\n", 2, 0}, {"18446744073709551617 0\n", 2, 0}, {"-18446744073709551617 0\n", 2, 0}, {strings.Repeat("9", 5000), 2, 0},
		{full + "1 0\n", 2, 2000}, {full + "-1 0\n", 2, 2000}, {full + "1", 2, 2000}, {full + "1x", 2, 2000}, {full + "-1\n", 2, 2000}, {full + "3 0\n", 2, 2000},
		{full + "1 1 1 x", 2, 2000}, {"d " + full + "1 0\n", 2, 2002}, {"1 0\nd " + full + "2 0\n", 2, 2006}, {full + "0\n" + full + "1 0\n", 2, 4002},
	} {
		checkWrong(t, x.s, x.n, x.at, api.ErrLarge)
	}
	for _, s := range []string{"", "x", "\n", "01 0\n", "-0\n", "-", "00\n", " 0\n", "d 1 0\n"} {
		checkWrong(t, full+s, 2, 2000, api.ErrForm)
	}
	checkWrong(t, full+"0", 2, 2001, api.ErrForm)
}

// P5.1: of several wrong things the first one from the left is told.
func TestParseFirstWrong(t *testing.T) {
	checkWrong(t, "3  0\n", 2, 0, api.ErrLarge)
	checkWrong(t, "1  3 0\n", 2, 2, api.ErrForm)
	checkWrong(t, "1 0 3 0\n", 2, 3, api.ErrForm)
	checkWrong(t, "1 0\n3 0\nx", 2, 4, api.ErrLarge)
	checkWrong(t, "1 0\nd3 0\n", 2, 4, api.ErrForm)
	checkWrong(t, "d 3 x\n", 2, 2, api.ErrLarge)
}

// P5.1: a text that ends early is wrong where what is missing begins; where a line ends there is nothing missing.
func TestParseEndsEarly(t *testing.T) {
	s := "1 -12 0\nd 10 0\n0\n"
	places := []int{-1, 1, 2, 2, 4, 5, 6, 7, -1, 8, 10, 11, 12, 13, 14, -1, 16}
	if len(places) != len(s) {
		t.Fatal("a place of each early end")
	}
	for end, at := range places {
		if at >= 0 {
			checkWrong(t, s[:end], 12, at, api.ErrForm)
		} else if p, at, e := drup.Parse([]byte(s[:end]), 12); at != end || e != api.OK || drup.Print(p) != s[:end] {
			t.Errorf("%q: %d, %d", s[:end], at, e)
		}
	}
}

// P5.1: one step too many is wrong where it begins, whatever is behind that; what begins no step is no step too many.
func TestParseTooManySteps(t *testing.T) {
	for _, step := range []string{"0\n", "d 0\n", "1 0\n"} {
		full := strings.Repeat(step, api.MaxClauses)
		for _, s := range []string{"0\n", "d 0\n", "1 0\n", "-2 0\n", "0", "d ", "d x", "1", "1 x", "1 0 ", "0\n0\n0\n", "3 0\n", "d 3 0\n", "0\nx"} {
			checkWrong(t, full+s, 2, len(full), api.ErrLarge)
		}
		for _, s := range []string{"x", "\n", " ", "d", "d1 0\n", "01 0\n", "-0\n", "-", " 0\n"} {
			checkWrong(t, full+s, 2, len(full), api.ErrForm)
		}
	}
	all := strings.Repeat("1 0\n0\n", api.MaxClauses/2)
	checkWrong(t, all+"d 1 0\n", 2, len(all), api.ErrLarge)
	checkWrong(t, all[:len(all)-2]+"3 0\n0\n", 2, len(all)-2, api.ErrLarge)
	checkWrong(t, all[:len(all)-1]+"x0\n0\n", 2, len(all)-1, api.ErrForm)
}

// P5.1: MaxBytes and one more.
func TestParseMaxBytes(t *testing.T) {
	row := strings.Repeat("99999 ", 900) + "0\n"
	s := strings.Repeat(row, 18) + strings.Repeat("0\n", (api.MaxBytes-18*len(row))/2)
	if len(s) < api.MaxBytes {
		s = "-" + s
	}
	p, at, e := drup.Parse([]byte(s), api.MaxVars)
	if len(s) != api.MaxBytes || at != len(s) || e != api.OK || drup.Print(p) != s {
		t.Errorf("of %d bytes: %d, %d", len(s), at, e)
	}
	checkWrong(t, s[:len(s)-1], api.MaxVars, len(s)-1, api.ErrForm)
	checkWrong(t, s+"\n", api.MaxVars, 0, api.ErrLarge)
	checkWrong(t, "d "+s, api.MaxVars, 0, api.ErrLarge)
	checkWrong(t, "1 0\nx"+s, api.MaxVars, 0, api.ErrLarge)
	checkWrong(t, strings.Repeat("x", api.MaxBytes), 2, 0, api.ErrForm)
	checkWrong(t, strings.Repeat("x", api.MaxBytes+1), 2, 0, api.ErrLarge)
	checkWrong(t, "1 0\n"+strings.Repeat(" ", api.MaxBytes-4), 2, 4, api.ErrForm)
}

// P5.1, R1: where n is no number of variables no proof is right, so no text is one's.
func TestParseOfNoNumber(t *testing.T) {
	for _, n := range []int{-1, -2, math.MinInt, api.MaxVars + 1, math.MaxInt} {
		for _, s := range []string{"", "0\n", "1 0\n", "d 0\n", "-1 0\n0\n", "x", "d"} {
			p, at, e := drup.Parse([]byte(s), n)
			if p != nil || at < 0 || at > len(s) || e != api.ErrForm && e != api.ErrLarge {
				t.Errorf("%q of %d: %v, %d, %d", s, n, p, at, e)
			}
		}
		checkWrong(t, "", n, 0, api.ErrForm)
		checkWrong(t, "x", n, 0, api.ErrForm)
		checkWrong(t, strings.Repeat("0\n", api.MaxBytes), n, 0, api.ErrLarge)
	}
	checkWrong(t, "1 0\n", -1, 0, api.ErrLarge)
}

var (
	figuresForm = regexp.MustCompile(`^-?[0-9]+`)
	literalForm = regexp.MustCompile(`^(0|-?[1-9][0-9]*)$`)
)

// slowly is Parse by other means: what stands there is cut off by expressions, and numbers have any size.
func slowly(s string, n int) ([]api.Step, int, api.Errno) {
	var p []api.Step
	for rest := s; rest != ""; {
		step := api.Step{}
		rest, step.Del = strings.CutPrefix(rest, "d ")
		for {
			figures := figuresForm.FindString(rest)
			here := len(s) - len(rest)
			if !literalForm.MatchString(figures) {
				return nil, here, api.ErrForm
			}
			x, _ := new(big.Int).SetString(figures, 10)
			if x.CmpAbs(big.NewInt(int64(n))) > 0 {
				return nil, here, api.ErrLarge
			}
			word := " "
			if x.Sign() == 0 {
				word = "\n"
			}
			var is bool
			if rest, is = strings.CutPrefix(rest[len(figures):], word); !is {
				return nil, len(s) - len(rest), api.ErrForm
			}
			if x.Sign() == 0 {
				break
			}
			step.C = append(step.C, int(x.Int64()))
		}
		p = append(p, step)
	}
	return p, len(s), api.OK
}

// checkText holds all of P5.1's Parse and of P5.3 of one text, and R3: no byte is written.
func checkText(t *testing.T, s string, n int) {
	t.Helper()
	b := []byte(s)
	p, at, e := drup.Parse(b, n)
	q, wantAt, wantE := slowly(s, n)
	if at != wantAt || e != wantE || !drup.Same(p, q) {
		t.Fatalf("%q of %d: %v, %d, %d; not %v, %d, %d", s, n, p, at, e, q, wantAt, wantE)
	}
	if at < 0 || at > len(s) || e == api.OK && (drup.Print(p) != s || !drup.Right(n, p)) {
		t.Fatalf("%q of %d: %v, %d is printed as %q", s, n, p, at, drup.Print(p))
	}
	if string(b) != s {
		t.Fatalf("%q became %q", s, b)
	}
}

// P5.1, P5.3: each text that differs in one place from a right one: a byte changed, left out, or put in.
func TestParseNearTexts(t *testing.T) {
	for _, s := range []string{"", "0\n", "d 0\n", "1 0\n0\n", "1 -2 0\nd 2 1 0\n0\n", "d 12 -1 0\n-10 0\nd 0\n", "100000 -99999 0\n"} {
		for at := range len(s) + 1 {
			for _, n := range []int{0, 2, 12, api.MaxVars} {
				checkText(t, s[:at], n)
				if at < len(s) {
					checkText(t, s[:at]+s[at+1:], n)
				}
				for _, p := range "0192- \n\r\tdx\x00\u00ff" {
					checkText(t, s[:at]+string(p)+s[at:], n)
					if at < len(s) {
						checkText(t, s[:at]+string(p)+s[at+1:], n)
					}
				}
			}
		}
	}
}

// P5.1, P5.3: every row of up to 6 of these pieces.
func TestParseAllTexts(t *testing.T) {
	pieces := []string{"0", "1", "2", "-", " ", "\n", "d", "d ", "0\n"}
	rows := []string{""}
	for range 6 {
		var longer []string
		for _, row := range rows {
			checkText(t, row, 1)
			for _, p := range pieces {
				longer = append(longer, row+p)
			}
		}
		rows = longer
	}
}

// P5.3: what is printed is parsed, and nothing that was handed in is changed.
func TestPrintedIsParsed(t *testing.T) {
	r := rand.New(rand.NewSource(51))
	for range 3000 {
		n := 1 + r.Intn(30)
		if r.Intn(3) == 0 {
			n = 1 + r.Intn(api.MaxVars)
		}
		var p []api.Step
		for range r.Intn(20) {
			p = append(p, api.Step{Del: r.Intn(3) == 0, C: some(r, n, 8)})
		}
		before := cloned(p)
		s := drup.Print(p)
		q, at, e := drup.Parse([]byte(s), n)
		if at != len(s) || e != api.OK || !drup.Same(p, q) || !drup.Right(n, q) || !drup.Right(n, p) {
			t.Fatalf("%v: %v, %d, %d", p, q, at, e)
		}
		if !drup.Same(p, before) {
			t.Fatalf("%v became %v", before, p)
		}
		checkText(t, s, n)
	}
}

// P5.3: what is printed and longer than MaxBytes is not parsed.
func TestPrintedTooLong(t *testing.T) {
	p := many(api.MaxClauses, add(api.MaxVars))
	checkWrong(t, drup.Print(p), api.MaxVars, 0, api.ErrLarge)
}

// R3: what is parsed shares no memory with the text, nor clauses with each other.
func TestParsedStandsAlone(t *testing.T) {
	b := []byte("1 2 3 0\nd 4 5 0\n6 0\n")
	p, _, _ := drup.Parse(b, 9)
	clear(b)
	for i, s := range p {
		p[i].C = append(s.C, 7, 7, 7, 7)
	}
	if !drup.Same(p, []api.Step{add(1, 2, 3, 7, 7, 7, 7), take(4, 5, 7, 7, 7, 7), add(6, 7, 7, 7, 7)}) {
		t.Error(p)
	}
}
