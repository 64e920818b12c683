package gates_test

import (
	"slices"
	"strconv"
	"strings"
	"testing"

	"vidimus/api"
	"vidimus/gates"
	"vidimus/scan"
)

// model has another number of each kind.
func model() api.Aig {
	return api.Aig{I: 2, L: make([]api.Latch, 3), G: make([]api.And, 4), Outs: []int{0, 1, 2, 3, 4}, Bad: []int{5, 6, 7, 8, 9, 10}, Con: []int{11}}
}

const headLine = "w 9 2 3 5 4 6 1\n"

// P6.1, P7.1: how many there are, and their literals.
func TestHead(t *testing.T) {
	h := gates.HeadOf(model())
	if h != (gates.Head{Vars: 9, Inputs: 2, Latches: 3, Outs: 5, Gates: 4, Bads: 6, Cons: 1}) {
		t.Error(h)
	}
	literals := []int{h.InputLiteral(0), h.InputLiteral(1), h.LatchLiteral(0), h.LatchLiteral(2), h.GateLiteral(0), h.GateLiteral(3), h.LastLiteral()}
	if !slices.Equal(literals, []int{2, 4, 6, 10, 12, 18, 19}) {
		t.Error(literals)
	}
	for kind := range 256 {
		want := map[byte]int{'i': 2, 'l': 3, 'o': 5, 'b': 6, 'c': 1}[byte(kind)]
		if n := h.HowMany(byte(kind)); n != want {
			t.Errorf("of kind %d: %d", kind, n)
		}
	}
	if gates.HeadOf(api.Aig{}) != (gates.Head{}) || (gates.Head{}).LastLiteral() != 1 || (gates.Head{}).GateLiteral(0) != 2 {
		t.Error("of nothing")
	}
}

// P6.1: what a latch may be at first, and which name is behind which.
func TestMay(t *testing.T) {
	for reset := -1; reset < 10; reset++ {
		if may := gates.MayReset(reset, 6); may != (reset == 0 || reset == 1 || reset == 6) {
			t.Errorf("%d: %v", reset, may)
		}
	}
	names := []api.Name{{}, {Kind: 'i'}, {Kind: 'i', At: 3}, {Kind: 'l', At: 1}, {Kind: 'o'}, {Kind: 'o', At: 1}, {Kind: 'b', At: 1}, {Kind: 'c'}}
	for i, n := range names {
		for k, ahead := range names {
			if behind := gates.IsBehind(n, ahead); behind != (i > k) {
				t.Errorf("%v behind %v: %v", n, ahead, behind)
			}
		}
	}
}

// P6.1, P7.1: lines that both formats have; and P6.2, P7.2: back.
func TestLines(t *testing.T) {
	a := model()
	var out strings.Builder
	gates.TellHead(&out, "w ", gates.HeadOf(a))
	gates.TellRows(&out, a)
	if out.String() != headLine+"0\n1\n2\n3\n4\n5\n6\n7\n8\n9\n10\n11\n" {
		t.Errorf("%q", out.String())
	}
	s := out.String() + "7 10\ni1 x\nc0 y\n"
	b, at, e := scan.Whole([]byte(s), func(r *scan.Reader) (b api.Aig) {
		h := gates.ReadHead(r, "w ")
		gates.ReadRows(r, h, &b)
		b.L = []api.Latch{gates.ReadLatch(r, h, 2)}
		gates.ReadNames(r, h, func(n api.Name) { b.Names = append(b.Names, n) })
		b.I = h.Inputs
		return b
	})
	names := []api.Name{{Kind: 'i', At: 1, S: "x"}, {Kind: 'c', S: "y"}}
	if at != len(s) || e != api.OK || b.I != 2 || !slices.Equal(b.Outs, a.Outs) || !slices.Equal(b.Bad, a.Bad) || !slices.Equal(b.Con, a.Con) ||
		!slices.Equal(b.L, []api.Latch{{Next: 7, Reset: 10}}) || !slices.Equal(b.Names, names) {
		t.Errorf("%v, %d, %d", b, at, e)
	}
}

// P6.2, P7.2: a latch's own literal is that of its place.
func TestReadLatch(t *testing.T) {
	h := gates.HeadOf(model())
	for at := range 3 {
		for reset := range 20 {
			s := "19 " + strconv.Itoa(reset) + "\n"
			l, place, e := scan.Whole([]byte(s), func(r *scan.Reader) api.Latch { return gates.ReadLatch(r, h, at) })
			if reset == 0 || reset == 1 || reset == 6+2*at {
				if l != (api.Latch{Next: 19, Reset: reset}) || place != len(s) || e != api.OK {
					t.Errorf("latch %d: %q: %v, %d, %d", at, s, l, place, e)
				}
			} else if l != (api.Latch{}) || place != 3 || e != api.ErrForm {
				t.Errorf("latch %d: %q: %v, %d, %d", at, s, l, place, e)
			}
		}
	}
}
