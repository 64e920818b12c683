package aig

import (
	"vidimus/api"
	"vidimus/gates"
	"vidimus/scan"
)

// Parse is a text's model.
func Parse(b []byte) (api.Aig, int, api.Errno) {
	return scan.Whole(b, func(r *scan.Reader) (a api.Aig) {
		h := gates.ReadHead(r, firstWord)
		a.I = h.Inputs
		readInputs(r, h)
		readLatches(r, h, func(l api.Latch) { a.L = append(a.L, l) })
		gates.ReadRows(r, h, &a)
		readGates(r, h, func(g api.And) { a.G = append(a.G, g) })
		gates.ReadNames(r, h, func(n api.Name) { a.Names = append(a.Names, n) })
		return a
	})
}

func readInputs(r *scan.Reader, h gates.Head) {
	for i := range h.Inputs {
		r.NumberWord(h.InputLiteral(i), scan.End)
	}
}

func readLatches(r *scan.Reader, h gates.Head, tell func(api.Latch)) {
	for i := range h.Latches {
		r.NumberWord(h.LatchLiteral(i), scan.Blank)
		tell(gates.ReadLatch(r, h, i))
	}
}

func readGates(r *scan.Reader, h gates.Head, tell func(api.And)) {
	for i := range h.Gates {
		literal := h.GateLiteral(i)
		r.NumberWord(literal, scan.Blank)
		g := api.And{A: r.Number(literal - 1)}
		g.B = r.NextNumber(g.A)
		r.Word(scan.End)
		tell(g)
	}
}
