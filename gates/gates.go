// Package gates holds what the texts and the bytes of models of gates have in common: how many of each there are, literals, and lines.
package gates

import (
	"strings"

	"vidimus/api"
)

// kinds are the kinds of names, in the order in which these stand.
const kinds = "ilobc"

// Head is what a model's first line tells: how many of each there are.
type Head struct{ Vars, Inputs, Latches, Outs, Gates, Bads, Cons int }

// HeadOf is a model's.
func HeadOf(a api.Aig) Head {
	return Head{
		Vars:   a.I + len(a.L) + len(a.G),
		Inputs: a.I, Latches: len(a.L), Outs: len(a.Outs), Gates: len(a.G), Bads: len(a.Bad), Cons: len(a.Con),
	}
}

// InputLiteral is the literal of an input by its place; variable 0 is ahead of all inputs.
func (h Head) InputLiteral(at int) int { return 2 * (1 + at) }

// LatchLiteral is the literal of a latch by its place.
func (h Head) LatchLiteral(at int) int { return 2 * (1 + h.Inputs + at) }

// GateLiteral is the literal of a gate by its place.
func (h Head) GateLiteral(at int) int { return 2 * (1 + h.Inputs + h.Latches + at) }

// LastLiteral is the greatest literal that there is.
func (h Head) LastLiteral() int { return 2*h.Vars + 1 }

// HowMany is how many of a kind there are, which names may be of; of what is no kind there are none.
func (h Head) HowMany(kind byte) int {
	switch kind {
	case 'i':
		return h.Inputs
	case 'l':
		return h.Latches
	case 'o':
		return h.Outs
	case 'b':
		return h.Bads
	case 'c':
		return h.Cons
	}
	return 0
}

// MayReset: may a latch of that literal be so at first?
func MayReset(reset, literal int) bool { return reset == 0 || reset == 1 || reset == literal }

// IsBehind: does a name stand behind another one? Each one does behind a name of no kind.
func IsBehind(n, ahead api.Name) bool {
	if n.Kind == ahead.Kind {
		return n.At > ahead.At
	}
	return strings.IndexByte(kinds, n.Kind) > strings.IndexByte(kinds, ahead.Kind)
}
