package aig

import "vidimus/api"

// head is what a text's first line tells: how many of each there are.
type head struct{ vars, inputs, latches, outs, gates, bads, cons int }

// Parse is a text's model.
func Parse(b []byte) (a api.Aig, at int, e api.Errno) {
	defer func() {
		if thrown := recover(); thrown != nil {
			// An assertion of one value: what is thrown otherwise is no fault of the text, and isn't told as one.
			w := thrown.(wrong)
			a, at, e = api.Aig{}, w.at, w.e
		}
	}()
	r := &reader{b: b}
	if len(b) > api.MaxBytes {
		r.stop(0, api.ErrLarge)
	}
	h := r.head()
	a.I = h.inputs
	r.inputs(h)
	r.latches(h, func(l api.Latch) { a.L = append(a.L, l) })
	r.literals(h, h.outs, func(x int) { a.Outs = append(a.Outs, x) })
	r.literals(h, h.bads, func(x int) { a.Bad = append(a.Bad, x) })
	r.literals(h, h.cons, func(x int) { a.Con = append(a.Con, x) })
	r.gates(h, func(g api.And) { a.G = append(a.G, g) })
	r.names(a, func(n api.Name) { a.Names = append(a.Names, n) })
	return a, r.at, api.OK
}

func (r *reader) head() head {
	var h head
	r.word(firstWord)
	first := r.at
	h.vars = r.number(api.MaxVar)
	h.inputs = r.nextNumber(api.MaxVar)
	h.latches = r.nextNumber(api.MaxVar)
	h.outs = r.nextNumber(api.MaxRow)
	h.gates = r.nextNumber(api.MaxVar)
	h.bads = r.nextNumber(api.MaxRow)
	h.cons = r.nextNumber(api.MaxRow)
	r.word(lineEnd)
	if h.vars != h.inputs+h.latches+h.gates {
		r.stop(first, api.ErrForm)
	}
	return h
}

func (r *reader) inputs(h head) {
	for i := range h.inputs {
		r.numberWord(inputLiteral(i), lineEnd)
	}
}

func (r *reader) latches(h head, tell func(api.Latch)) {
	for i := range h.latches {
		literal := latchLiteral(h.inputs, i)
		r.numberWord(literal, blank)
		next := r.number(lastLiteral(h.vars))
		r.word(blank)
		first := r.at
		reset := r.number(lastLiteral(h.vars))
		r.word(lineEnd)
		if !mayReset(reset, literal) {
			r.stop(first, api.ErrForm)
		}
		tell(api.Latch{Next: next, Reset: reset})
	}
}

func (r *reader) literals(h head, lines int, tell func(int)) {
	for range lines {
		x := r.number(lastLiteral(h.vars))
		r.word(lineEnd)
		tell(x)
	}
}

func (r *reader) gates(h head, tell func(api.And)) {
	for i := range h.gates {
		literal := gateLiteral(h.inputs, h.latches, i)
		r.numberWord(literal, blank)
		g := api.And{A: r.number(literal - 1)}
		g.B = r.nextNumber(g.A)
		r.word(lineEnd)
		tell(g)
	}
}

// names reads all that is left: names of what the model has.
func (r *reader) names(a api.Aig, tell func(api.Name)) {
	// At first a name of no kind, which each one is behind.
	var ahead api.Name
	for count := 0; r.at < len(r.b); count++ {
		first := r.at
		kind := r.oneOf(kinds)
		// Asked behind the kind: what begins no name isn't one too many, but wrong as such.
		if count == api.MaxRow {
			r.stop(first, api.ErrLarge)
		}
		n := api.Name{Kind: kind, At: r.number(howMany(a, kind) - 1)}
		r.word(blank)
		n.S = r.name()
		r.word(lineEnd)
		if !isBehind(n, ahead) {
			r.stop(first, api.ErrForm)
		}
		tell(n)
		ahead = n
	}
}
