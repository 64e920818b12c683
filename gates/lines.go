package gates

import (
	"strconv"
	"strings"

	"vidimus/api"
	"vidimus/scan"
)

// Tell writes a line of numbers.
func Tell(out *strings.Builder, numbers ...int) {
	for i, n := range numbers {
		if i > 0 {
			out.WriteString(scan.Blank)
		}
		out.WriteString(strconv.Itoa(n))
	}
	out.WriteString(scan.End)
}

// TellHead writes the first line, with the word that it begins with.
func TellHead(out *strings.Builder, word string, h Head) {
	out.WriteString(word)
	Tell(out, h.Vars, h.Inputs, h.Latches, h.Outs, h.Gates, h.Bads, h.Cons)
}

// TellRows writes the lines of outputs, bads and constraints.
func TellRows(out *strings.Builder, a api.Aig) {
	for _, row := range [][]int{a.Outs, a.Bad, a.Con} {
		for _, x := range row {
			Tell(out, x)
		}
	}
}

// ReadHead reads the first line.
func ReadHead(r *scan.Reader, word string) Head {
	var h Head
	r.Word(word)
	first := r.At()
	h.Vars = r.Number(api.MaxVar)
	h.Inputs = r.NextNumber(api.MaxVar)
	h.Latches = r.NextNumber(api.MaxVar)
	h.Outs = r.NextNumber(api.MaxRow)
	h.Gates = r.NextNumber(api.MaxVar)
	h.Bads = r.NextNumber(api.MaxRow)
	h.Cons = r.NextNumber(api.MaxRow)
	r.Word(scan.End)
	if h.Vars != h.Inputs+h.Latches+h.Gates {
		r.Stop(first, api.ErrForm)
	}
	return h
}

// ReadLatch reads the line of the latch at that place, from Next on.
func ReadLatch(r *scan.Reader, h Head, at int) api.Latch {
	next := r.Number(h.LastLiteral())
	r.Word(scan.Blank)
	first := r.At()
	reset := r.Number(h.LastLiteral())
	r.Word(scan.End)
	if !MayReset(reset, h.LatchLiteral(at)) {
		r.Stop(first, api.ErrForm)
	}
	return api.Latch{Next: next, Reset: reset}
}

// ReadRows reads the lines of outputs, bads and constraints into a model.
func ReadRows(r *scan.Reader, h Head, a *api.Aig) {
	readRow(r, h, h.Outs, func(x int) { a.Outs = append(a.Outs, x) })
	readRow(r, h, h.Bads, func(x int) { a.Bad = append(a.Bad, x) })
	readRow(r, h, h.Cons, func(x int) { a.Con = append(a.Con, x) })
}

func readRow(r *scan.Reader, h Head, lines int, tell func(x int)) {
	for range lines {
		x := r.Number(h.LastLiteral())
		r.Word(scan.End)
		tell(x)
	}
}

// ReadNames reads all that is left: names of what there is.
func ReadNames(r *scan.Reader, h Head, tell func(n api.Name)) {
	// At first a name of no kind, which each one is behind.
	var ahead api.Name
	for count := 0; r.More(); count++ {
		first := r.At()
		kind := r.OneOf(kinds)
		// Asked behind the kind: what begins no name isn't one too many, but wrong as such.
		if count == api.MaxRow {
			r.Stop(first, api.ErrLarge)
		}
		n := api.Name{Kind: kind, At: r.Number(h.HowMany(kind) - 1)}
		r.Word(scan.Blank)
		n.S = r.Name()
		r.Word(scan.End)
		if !IsBehind(n, ahead) {
			r.Stop(first, api.ErrForm)
		}
		tell(n)
		ahead = n
	}
}
