package vec_test

import (
	"math"
	"math/big"
	"slices"
	"strings"
	"testing"

	"vidimus/api"
	"vidimus/vec"
)

// parts reads a vector's fields with none of the package's own calls, so that these are held against something else.
func parts(a api.Vec) *big.Int {
	n := new(big.Int)
	for i := len(a.L) - 1; i >= 0; i-- {
		n.Lsh(n, 64).Or(n, new(big.Int).SetUint64(a.L[i]))
	}
	return n
}

// built is the right vector of width w whose number is n by 2 to the power of w.
func built(w int, n *big.Int) api.Vec {
	m := new(big.Int).Mod(n, pow(w))
	a := api.Vec{W: w}
	for range (w + 63) / 64 {
		a.L = append(a.L, new(big.Int).And(m, new(big.Int).SetUint64(math.MaxUint64)).Uint64())
		m.Rsh(m, 64)
	}
	return a
}

func pow(w int) *big.Int { return new(big.Int).Lsh(big.NewInt(1), uint(w)) }

func signed(a api.Vec) *big.Int {
	n := parts(a)
	if n.Bit(a.W-1) == 1 {
		n.Sub(n, pow(a.W))
	}
	return n
}

// equal holds fields against each other, as Same is itself tested.
func equal(a, b api.Vec) bool { return a.W == b.W && slices.Equal(a.L, b.L) }

func none(a api.Vec) bool { return a.W == 0 && len(a.L) == 0 }

func made(t *testing.T, s string) api.Vec {
	t.Helper()
	a, e := vec.Make(s)
	if e != api.OK {
		t.Fatalf("Make(%q): %d", s, e)
	}
	return a
}

// all are the vectors of width w.
func all(w int) []api.Vec {
	var out []api.Vec
	for n := range 1 << w {
		out = append(out, built(w, big.NewInt(int64(n))))
	}
	return out
}

// edges are vectors of width w at which a carry, a borrow, a shift or a sign changes something.
func edges(w int) []api.Vec {
	seen := map[string]int{}
	var out []api.Vec
	add := func(n *big.Int) {
		a := built(w, n)
		if k := parts(a).String(); seen[k] == 0 {
			seen[k] = 1
			out = append(out, a)
		}
	}
	for _, n := range []int64{0, 1, 2, 3, 7, 10, 63, 64, 65, 127, 128, 129, -1, -2, -3, -64, -65, math.MaxInt64, math.MinInt64} {
		add(big.NewInt(n))
	}
	for _, k := range []int{w - 1, w - 2, 32, 63, 64, 65, 96} {
		if k >= 0 {
			add(pow(k))
			add(new(big.Int).Sub(pow(k), big.NewInt(1)))
			add(new(big.Int).Add(pow(k), big.NewInt(1)))
			add(new(big.Int).Add(pow(k), big.NewInt(64)))
		}
	}
	add(big.NewInt(int64(w)))
	add(big.NewInt(int64(w - 1)))
	add(big.NewInt(int64(w + 1)))
	three, _ := new(big.Int).SetString("fedcba98765432100f1e2d3c4b5a6978", 16)
	add(three)
	add(new(big.Int).Div(pow(128), big.NewInt(3)))
	add(new(big.Int).Rsh(three, 50))
	return out
}

// groups are the vectors that each test takes, by their widths.
func groups() [][]api.Vec {
	var out [][]api.Vec
	for w := 1; w <= 4; w++ {
		out = append(out, all(w))
	}
	for _, w := range []int{5, 8, 33, 63, 64, 65, 66, 100, 127, 128} {
		out = append(out, edges(w))
	}
	return out
}

func truth(is bool) api.Vec {
	if is {
		return api.Vec{W: 1, L: []uint64{1}}
	}
	return api.Vec{W: 1, L: []uint64{0}}
}

func bitsText(a api.Vec) string {
	n := parts(a)
	var s strings.Builder
	for i := a.W - 1; i >= 0; i-- {
		s.WriteByte('0' + byte(n.Bit(i)))
	}
	return s.String()
}

// P2.1: what is right.
func TestRight(t *testing.T) {
	most := uint64(math.MaxUint64)
	for _, x := range []struct {
		a     api.Vec
		right bool
	}{
		{api.Vec{W: 1, L: []uint64{0}}, true},
		{api.Vec{W: 1, L: []uint64{1}}, true},
		{api.Vec{W: 63, L: []uint64{most >> 1}}, true},
		{api.Vec{W: 64, L: []uint64{most}}, true},
		{api.Vec{W: 65, L: []uint64{most, 1}}, true},
		{api.Vec{W: 127, L: []uint64{most, most >> 1}}, true},
		{api.Vec{W: 128, L: []uint64{most, most}}, true},
		{api.Vec{W: 128, L: []uint64{0, 0}}, true},
		{api.Vec{}, false},
		{api.Vec{W: 0, L: []uint64{}}, false},
		{api.Vec{W: 0, L: []uint64{0}}, false},
		{api.Vec{W: -1}, false},
		{api.Vec{W: -1, L: []uint64{0}}, false},
		{api.Vec{W: -63, L: nil}, false},
		{api.Vec{W: math.MinInt, L: []uint64{0}}, false},
		{api.Vec{W: 129, L: []uint64{0, 0, 0}}, false},
		{api.Vec{W: 129, L: []uint64{0, 0}}, false},
		{api.Vec{W: 192, L: []uint64{0, 0, 0}}, false},
		{api.Vec{W: math.MaxInt, L: []uint64{0, 0}}, false},
		{api.Vec{W: math.MaxInt}, false},
		{api.Vec{W: 1}, false},
		{api.Vec{W: 1, L: []uint64{}}, false},
		{api.Vec{W: 1, L: []uint64{0, 0}}, false},
		{api.Vec{W: 64, L: []uint64{0, 0}}, false},
		{api.Vec{W: 64}, false},
		{api.Vec{W: 65, L: []uint64{0}}, false},
		{api.Vec{W: 65, L: []uint64{0, 0, 0}}, false},
		{api.Vec{W: 128, L: []uint64{0}}, false},
		{api.Vec{W: 128, L: []uint64{0, 0, 0}}, false},
		{api.Vec{W: 1, L: []uint64{2}}, false},
		{api.Vec{W: 1, L: []uint64{1 << 63}}, false},
		{api.Vec{W: 63, L: []uint64{1 << 63}}, false},
		{api.Vec{W: 65, L: []uint64{0, 2}}, false},
		{api.Vec{W: 65, L: []uint64{0, 1 << 63}}, false},
		{api.Vec{W: 127, L: []uint64{0, 1 << 63}}, false},
	} {
		if vec.Right(x.a) != x.right {
			t.Errorf("Right(%v): %v", x.a, !x.right)
		}
	}
}

// P2.1: each width has as many limbs as it needs, and no bit from the width on.
func TestRightOfEachWidth(t *testing.T) {
	for w := 1; w <= 128; w++ {
		for limbs := range 4 {
			a := api.Vec{W: w, L: make([]uint64, limbs)}
			if vec.Right(a) != (limbs == (w+63)/64) {
				t.Errorf("width %d with %d limbs", w, limbs)
			}
		}
		for i := range (w + 63) / 64 * 64 {
			a := api.Vec{W: w, L: make([]uint64, (w+63)/64)}
			a.L[i/64] = 1 << (i % 64)
			if vec.Right(a) != (i < w) {
				t.Errorf("width %d with bit %d", w, i)
			}
		}
	}
}

// P2.1: a text is made a vector, and tells it again.
func TestMakeAndText(t *testing.T) {
	for _, group := range groups() {
		for _, a := range group {
			s := bitsText(a)
			if got, e := vec.Make(s); e != api.OK || !equal(got, a) || !vec.Right(got) {
				t.Errorf("Make(%q): %v %d", s, got, e)
			}
			if got := vec.Text(a); got != s {
				t.Errorf("Text(%v): %q", a, got)
			}
		}
	}
	for w := 1; w <= 128; w++ {
		for i := range w {
			s := strings.Repeat("0", w-1-i) + "1" + strings.Repeat("0", i)
			if a := made(t, s); !equal(a, built(w, pow(i))) || vec.Text(a) != s {
				t.Errorf("%q: %v", s, a)
			}
		}
	}
}

// P2.1: a text that is none's.
func TestMakeOfOtherTexts(t *testing.T) {
	for _, s := range []string{
		"", "2", "/", ":", " ", "x", "-", "-1", "+1", "01a", "a01", "0 1", "01\n", "\x00", "\x01", "１", "0b1",
		strings.Repeat("0", 129), strings.Repeat("1", 129), strings.Repeat("1", 100000),
		strings.Repeat("0", 127) + "x", "x" + strings.Repeat("0", 127),
	} {
		if a, e := vec.Make(s); e != api.ErrForm || !none(a) {
			t.Errorf("Make(%q): %v %d", s, a, e)
		}
	}
	for c := range 256 {
		if c == '0' || c == '1' {
			continue
		}
		if a, e := vec.Make("1" + string([]byte{byte(c)}) + "0"); e != api.ErrForm || !none(a) {
			t.Errorf("byte %d: %v %d", c, a, e)
		}
	}
}

// P2.1: each bit, and none where there is none.
func TestBit(t *testing.T) {
	for _, group := range groups() {
		for _, a := range group {
			n := parts(a)
			for i := range a.W {
				if vec.Bit(a, i) != (n.Bit(i) == 1) {
					t.Errorf("Bit(%v, %d)", a, i)
				}
			}
			for _, i := range []int{-1, -64, math.MinInt, a.W, a.W + 1, 128, 129, 192, math.MaxInt} {
				if vec.Bit(a, i) {
					t.Errorf("Bit(%v, %d)", a, i)
				}
			}
		}
	}
}

// P2.1: the same width and bits.
func TestSame(t *testing.T) {
	var each []api.Vec
	for _, group := range groups() {
		each = append(each, group...)
	}
	for i, a := range each {
		for j, b := range each {
			if vec.Same(a, b) != (i == j) {
				t.Errorf("Same(%v, %v)", a, b)
			}
		}
		if !vec.Same(a, built(a.W, parts(a))) {
			t.Errorf("not the same as its copy: %v", a)
		}
	}
	high := made(t, "1"+strings.Repeat("0", 127))
	if vec.Same(high, made(t, strings.Repeat("0", 128))) || vec.Same(made(t, "0"), made(t, "00")) || vec.Same(built(64, big.NewInt(5)), built(65, big.NewInt(5))) {
		t.Error("vectors that aren't the same")
	}
}

// unWanted is what each operation of one is, reckoned with whole numbers.
func unWanted() map[string]func(a api.Vec) api.Vec {
	one := big.NewInt(1)
	return map[string]func(a api.Vec) api.Vec{
		"not":    func(a api.Vec) api.Vec { return built(a.W, new(big.Int).Not(parts(a))) },
		"inc":    func(a api.Vec) api.Vec { return built(a.W, new(big.Int).Add(parts(a), one)) },
		"dec":    func(a api.Vec) api.Vec { return built(a.W, new(big.Int).Sub(parts(a), one)) },
		"neg":    func(a api.Vec) api.Vec { return built(a.W, new(big.Int).Neg(parts(a))) },
		"redand": func(a api.Vec) api.Vec { return truth(!strings.Contains(bitsText(a), "0")) },
		"redor":  func(a api.Vec) api.Vec { return truth(strings.Contains(bitsText(a), "1")) },
		"redxor": func(a api.Vec) api.Vec { return truth(strings.Count(bitsText(a), "1")%2 == 1) },
	}
}

// P2.2: operations of one; P2.5: what comes out is right.
func TestUn(t *testing.T) {
	for op, want := range unWanted() {
		for _, group := range groups() {
			for _, a := range group {
				got, e := vec.Un(op, a)
				if e != api.OK || !vec.Right(got) || !equal(got, want(a)) {
					t.Errorf("%s of %s: %s %d", op, bitsText(a), bitsText(got), e)
				}
			}
		}
	}
}

// P2.2: operations of one, each bit of the widest alone.
func TestUnOfOneBit(t *testing.T) {
	for op, want := range unWanted() {
		for _, w := range []int{64, 65, 128} {
			for i := range w {
				for _, n := range []*big.Int{pow(i), new(big.Int).Not(pow(i))} {
					a := built(w, n)
					if got, e := vec.Un(op, a); e != api.OK || !equal(got, want(a)) {
						t.Errorf("%s of %s: %s %d", op, bitsText(a), bitsText(got), e)
					}
				}
			}
		}
	}
}

// binWanted is what each operation of two of one width is, reckoned with whole numbers.
func binWanted() map[string]func(a, b api.Vec) api.Vec {
	type reckon func(z, x, y *big.Int) *big.Int
	sized := func(f reckon) func(a, b api.Vec) api.Vec {
		return func(a, b api.Vec) api.Vec { return built(a.W, f(new(big.Int), parts(a), parts(b))) }
	}
	shift := func(of func(a api.Vec) *big.Int, up bool) func(a, b api.Vec) api.Vec {
		return func(a, b api.Vec) api.Vec {
			by := uint(200)
			if n := parts(b); n.Cmp(big.NewInt(200)) < 0 {
				by = uint(n.Int64())
			}
			if up {
				return built(a.W, new(big.Int).Lsh(of(a), by))
			}
			return built(a.W, new(big.Int).Rsh(of(a), by))
		}
	}
	return map[string]func(a, b api.Vec) api.Vec{
		"and": sized((*big.Int).And),
		"or":  sized((*big.Int).Or),
		"xor": sized((*big.Int).Xor),
		"add": sized((*big.Int).Add),
		"sub": sized((*big.Int).Sub),
		"mul": sized((*big.Int).Mul),
		"udiv": sized(func(z, x, y *big.Int) *big.Int {
			if y.Sign() == 0 {
				return big.NewInt(-1)
			}
			return z.Div(x, y)
		}),
		"urem": sized(func(z, x, y *big.Int) *big.Int {
			if y.Sign() == 0 {
				return x
			}
			return z.Mod(x, y)
		}),
		"sll": shift(parts, true),
		"srl": shift(parts, false),
		"sra": shift(signed, false),
		"eq":  func(a, b api.Vec) api.Vec { return truth(parts(a).Cmp(parts(b)) == 0) },
		"ult": func(a, b api.Vec) api.Vec { return truth(parts(a).Cmp(parts(b)) < 0) },
		"slt": func(a, b api.Vec) api.Vec { return truth(signed(a).Cmp(signed(b)) < 0) },
	}
}

// P2.3: operations of two; P2.5: what comes out is right.
func TestBin(t *testing.T) {
	for op, want := range binWanted() {
		for _, group := range groups() {
			for _, a := range group {
				for _, b := range group {
					got, e := vec.Bin(op, a, b)
					if e != api.OK || !vec.Right(got) || !equal(got, want(a, b)) {
						t.Errorf("%s of %s and %s: %s %d", op, bitsText(a), bitsText(b), bitsText(got), e)
					}
				}
			}
		}
	}
}

// P2.3: shifts by each number of places, and by such that don't fit into one limb.
func TestShifts(t *testing.T) {
	wanted := binWanted()
	for _, op := range []string{"sll", "srl", "sra"} {
		for w := 1; w <= 128; w++ {
			three, _ := new(big.Int).SetString("f0e1d2c3b4a5968778695a4b3c2d1e0f", 16)
			by := []*big.Int{pow(w - 1), new(big.Int).Sub(pow(w), big.NewInt(1))}
			for k := range 131 {
				if n := big.NewInt(int64(k)); n.Cmp(pow(w)) < 0 {
					by = append(by, n)
				}
			}
			for k := 64; k < w; k++ {
				by = append(by, pow(k), new(big.Int).Add(pow(k), big.NewInt(1)))
			}
			for _, a := range []api.Vec{built(w, big.NewInt(-1)), built(w, pow(w-1)), built(w, three), built(w, new(big.Int).Not(three))} {
				for _, n := range by {
					b := built(w, n)
					if got, e := vec.Bin(op, a, b); e != api.OK || !equal(got, wanted[op](a, b)) {
						t.Errorf("%s of %s by %s: %s %d", op, bitsText(a), n, bitsText(got), e)
					}
				}
			}
		}
	}
}

// P2.3: a's bits above b's, of all widths up to just 128.
func TestConcat(t *testing.T) {
	three, _ := new(big.Int).SetString("f0e1d2c3b4a5968778695a4b3c2d1e0f", 16)
	for v := 1; v <= 128; v++ {
		for w := 1; w <= 128; w++ {
			a, b := built(v, three), built(w, new(big.Int).Not(three))
			got, e := vec.Bin("concat", a, b)
			if v+w > 128 {
				if e != api.ErrWidth || !none(got) {
					t.Fatalf("concat of %d and %d: %v %d", v, w, got, e)
				}
				continue
			}
			if e != api.OK || !vec.Right(got) || vec.Text(got) != bitsText(a)+bitsText(b) {
				t.Fatalf("concat of %s and %s: %s %d", bitsText(a), bitsText(b), bitsText(got), e)
			}
		}
	}
}

// P2.2, P2.3: another op, ahead of widths that aren't the same.
func TestOtherOps(t *testing.T) {
	a, b := made(t, "01"), made(t, "011")
	for _, op := range []string{"", "add", "Not", "NOT", " not", "not ", "nega", "redxnor", "and", "concat"} {
		if got, e := vec.Un(op, a); e != api.ErrArg || !none(got) {
			t.Errorf("Un %q: %v %d", op, got, e)
		}
	}
	for _, op := range []string{"", "not", "inc", "redor", "Add", "ADD", " add", "add ", "nor", "neq", "ugt", "sdiv", "ite", "slice"} {
		if got, e := vec.Bin(op, a, a); e != api.ErrArg || !none(got) {
			t.Errorf("Bin %q: %v %d", op, got, e)
		}
		if got, e := vec.Bin(op, a, b); e != api.ErrArg || !none(got) {
			t.Errorf("Bin %q of two widths: %v %d", op, got, e)
		}
	}
}

// P2.3: widths that aren't the same.
func TestOtherWidths(t *testing.T) {
	for op := range binWanted() {
		for _, x := range [][2]int{{1, 2}, {2, 1}, {63, 64}, {64, 65}, {65, 64}, {1, 128}, {128, 127}} {
			a, b := built(x[0], big.NewInt(1)), built(x[1], big.NewInt(1))
			if got, e := vec.Bin(op, a, b); e != api.ErrWidth || !none(got) {
				t.Errorf("%s of widths %v: %v %d", op, x, got, e)
			}
		}
	}
}

// P2.4: bits lo to hi, at both ends too.
func TestSlice(t *testing.T) {
	three, _ := new(big.Int).SetString("f0e1d2c3b4a5968778695a4b3c2d1e0f", 16)
	for _, w := range []int{1, 2, 5, 63, 64, 65, 100, 128} {
		for _, n := range []*big.Int{three, big.NewInt(-1)} {
			a := built(w, n)
			s := bitsText(a)
			for lo := -2; lo <= w+1; lo++ {
				for hi := -2; hi <= w+1; hi++ {
					got, e := vec.Slice(a, hi, lo)
					if lo < 0 || lo > hi || hi >= w {
						if e != api.ErrWidth || !none(got) {
							t.Fatalf("Slice(%s, %d, %d): %v %d", s, hi, lo, got, e)
						}
						continue
					}
					if e != api.OK || !vec.Right(got) || vec.Text(got) != s[w-1-hi:w-lo] {
						t.Fatalf("Slice(%s, %d, %d): %s %d", s, hi, lo, bitsText(got), e)
					}
				}
			}
		}
	}
	a := made(t, "10110")
	for _, x := range [][2]int{{math.MaxInt, 0}, {0, math.MinInt}, {math.MaxInt, math.MinInt}, {math.MinInt, math.MinInt}, {math.MaxInt, math.MaxInt}} {
		if got, e := vec.Slice(a, x[0], x[1]); e != api.ErrWidth || !none(got) {
			t.Errorf("Slice of %v: %v %d", x, got, e)
		}
	}
}

// P2.4: n bits more above.
func TestExt(t *testing.T) {
	three, _ := new(big.Int).SetString("f0e1d2c3b4a5968778695a4b3c2d1e0f", 16)
	for w := 1; w <= 128; w++ {
		for _, k := range []*big.Int{three, new(big.Int).Not(three), pow(w - 1), big.NewInt(0), big.NewInt(-1)} {
			a := built(w, k)
			s := bitsText(a)
			for n := range 130 {
				for _, sign := range []bool{false, true} {
					got, e := vec.Ext(a, n, sign)
					if w+n > 128 {
						if e != api.ErrWidth || !none(got) {
							t.Fatalf("Ext(%s, %d, %v): %v %d", s, n, sign, got, e)
						}
						continue
					}
					in := "0"
					if sign {
						in = s[:1]
					}
					if e != api.OK || !vec.Right(got) || vec.Text(got) != strings.Repeat(in, n)+s {
						t.Fatalf("Ext(%s, %d, %v): %s %d", s, n, sign, bitsText(got), e)
					}
				}
			}
			for _, n := range []int{-1, -w, math.MinInt, math.MaxInt, math.MaxInt - w + 1} {
				if got, e := vec.Ext(a, n, true); e != api.ErrWidth || !none(got) {
					t.Fatalf("Ext(%s, %d): %v %d", s, n, got, e)
				}
			}
		}
	}
}

// P2.4: one of two.
func TestIte(t *testing.T) {
	for _, group := range groups() {
		a, b := group[0], group[len(group)-1]
		for _, x := range []struct{ c, want api.Vec }{{truth(true), a}, {truth(false), b}} {
			if got, e := vec.Ite(x.c, a, b); e != api.OK || !vec.Right(got) || !equal(got, x.want) {
				t.Errorf("Ite(%v, %v, %v): %v %d", x.c, a, b, got, e)
			}
		}
	}
	for _, x := range [][3]string{{"10", "1", "0"}, {"01", "10", "01"}, {"0", "1", "10"}, {"1", "10", "1"}, {"11", "10", "1"}} {
		if got, e := vec.Ite(made(t, x[0]), made(t, x[1]), made(t, x[2])); e != api.ErrWidth || !none(got) {
			t.Errorf("Ite of %v: %v %d", x, got, e)
		}
	}
	wide := built(128, big.NewInt(1))
	if got, e := vec.Ite(wide, wide, wide); e != api.ErrWidth || !none(got) {
		t.Errorf("Ite of a wide one: %v %d", got, e)
	}
}

// P2.5: sums and products hang on no order.
func TestNoOrder(t *testing.T) {
	bin := func(op string, a, b api.Vec) api.Vec {
		out, e := vec.Bin(op, a, b)
		if e != api.OK {
			t.Fatal(op, e)
		}
		return out
	}
	for _, op := range []string{"add", "mul"} {
		for _, group := range groups() {
			for i, a := range group {
				for j, b := range group {
					c := group[(i*7+j*3)%len(group)]
					if !vec.Same(bin(op, a, b), bin(op, b, a)) || !vec.Same(bin(op, a, bin(op, b, c)), bin(op, bin(op, a, b), c)) {
						t.Errorf("%s of %v, %v, %v", op, a, b, c)
					}
				}
			}
		}
	}
}

// P2.5: a quotient times the divisor, and what is left, are what was divided.
func TestDivided(t *testing.T) {
	for _, group := range groups() {
		for _, a := range group {
			for _, b := range group {
				quotient, _ := vec.Bin("udiv", a, b)
				rest, _ := vec.Bin("urem", a, b)
				product, _ := vec.Bin("mul", quotient, b)
				if sum, e := vec.Bin("add", product, rest); e != api.OK || !vec.Same(sum, a) {
					t.Errorf("%v by %v: %v and %v", a, b, quotient, rest)
				}
				if less, _ := vec.Bin("ult", rest, b); parts(b).Sign() != 0 && !vec.Bit(less, 0) {
					t.Errorf("%v by %v leaves %v", a, b, rest)
				}
			}
		}
	}
}

// answers are what all calls that answer vectors tell of a and b, of the same width.
func answers(a, b, c api.Vec) []api.Vec {
	var out []api.Vec
	keep := func(v api.Vec, e api.Errno) {
		if e == api.OK {
			out = append(out, v)
		}
	}
	for op := range unWanted() {
		keep(vec.Un(op, a))
	}
	for op := range binWanted() {
		keep(vec.Bin(op, a, b))
	}
	keep(vec.Bin("concat", a, b))
	keep(vec.Slice(a, a.W-1, 0))
	keep(vec.Ext(a, 0, false))
	keep(vec.Ext(a, 0, true))
	keep(vec.Ite(c, a, b))
	return out
}

// R3: nothing is written into what is handed in, and what comes out is memory of its own.
func TestAnswersStandAlone(t *testing.T) {
	for _, w := range []int{1, 64, 65, 128} {
		for _, n := range []int64{0, 1, -1} {
			for _, c := range []api.Vec{truth(true), truth(false)} {
				a, b := built(w, big.NewInt(-1)), built(w, big.NewInt(n))
				wasA, wasB, wasC := built(w, parts(a)), built(w, parts(b)), built(1, parts(c))
				for _, out := range answers(a, b, c) {
					for i := range out.L {
						out.L[i] ^= 5
					}
				}
				if !equal(a, wasA) || !equal(b, wasB) || !equal(c, wasC) {
					t.Errorf("width %d: %v %v %v", w, a, b, c)
				}
			}
		}
	}
	one, _ := vec.Bin("eq", truth(true), truth(true))
	one.L[0] = 7
	if two, _ := vec.Bin("eq", truth(true), truth(true)); !equal(two, truth(true)) {
		t.Error("answers share memory")
	}
}

// No call panics, and each ends, also of vectors that aren't right: then there is none.
func TestNotRight(t *testing.T) {
	good := made(t, "1")
	for _, a := range []api.Vec{
		{}, {W: 1}, {W: -5, L: []uint64{1}}, {W: math.MinInt}, {W: math.MaxInt}, {W: math.MaxInt, L: []uint64{1}},
		{W: 1, L: []uint64{2}}, {W: 64}, {W: 64, L: []uint64{1, 1}}, {W: 65, L: []uint64{1}}, {W: 128, L: []uint64{1}},
		{W: 129, L: []uint64{1, 1, 1}}, {W: 192, L: []uint64{1, 1, 1}},
	} {
		if s := vec.Text(a); s != "" {
			t.Errorf("Text(%v): %q", a, s)
		}
		for _, i := range []int{-1, 0, 1, 63, 64, 65, 127, 128, 200, math.MaxInt, math.MinInt} {
			vec.Bit(a, i)
		}
		vec.Same(a, good)
		for _, b := range []api.Vec{a, good, {}, {W: math.MinInt}, {W: math.MaxInt}} {
			out := append(answers(a, b, good), answers(a, b, a)...)
			out = append(out, answers(b, a, good)...)
			for _, v := range out {
				if !vec.Right(v) {
					t.Errorf("%v and %v: %v", a, b, v)
				}
			}
		}
		if got, e := vec.Un("not", a); e != api.ErrArg || !none(got) {
			t.Errorf("not of %v: %v %d", a, got, e)
		}
		if got, e := vec.Bin("add", a, a); e != api.ErrArg || !none(got) {
			t.Errorf("add of %v: %v %d", a, got, e)
		}
		for _, n := range []int{-1, 0, 1, math.MaxInt, math.MinInt} {
			if got, e := vec.Ext(a, n, true); e == api.OK || !none(got) {
				t.Errorf("Ext(%v, %d): %v %d", a, n, got, e)
			}
			if got, e := vec.Slice(a, n, 0); e == api.OK || !none(got) {
				t.Errorf("Slice(%v, %d, 0): %v %d", a, n, got, e)
			}
		}
	}
}

// The chapter's examples.
func TestExamples(t *testing.T) {
	for _, x := range [][4]string{{"add", "11", "01", "00"}, {"sra", "100", "001", "110"}} {
		if a, e := vec.Bin(x[0], made(t, x[1]), made(t, x[2])); e != api.OK || vec.Text(a) != x[3] {
			t.Errorf("%v: %s %d", x, vec.Text(a), e)
		}
	}
}
