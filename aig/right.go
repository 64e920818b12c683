package aig

import (
	"slices"
	"strings"

	"vidimus/api"
	"vidimus/lex"
)

// kinds are the kinds of names, in the order in which these stand.
const kinds = "ilobc"

// Right: is it right?
func Right(a api.Aig) bool {
	return rightCounts(a) && rightLiterals(a) && rightLatches(a) && rightGates(a) && rightNames(a)
}

func rightCounts(a api.Aig) bool {
	// The inputs are asked by themselves, lest the sum go round.
	if a.I < 0 || a.I > api.MaxVar || Vars(a) > api.MaxVar {
		return false
	}
	return max(len(a.Outs), len(a.Bad), len(a.Con), len(a.Names)) <= api.MaxRow
}

func rightLiterals(a api.Aig) bool {
	last := lastLiteral(Vars(a))
	mayNotBe := func(x int) bool { return x < 0 || x > last }
	nextMayNotBe := func(l api.Latch) bool { return mayNotBe(l.Next) }
	return !slices.ContainsFunc(a.L, nextMayNotBe) && !slices.ContainsFunc(a.Outs, mayNotBe) &&
		!slices.ContainsFunc(a.Bad, mayNotBe) && !slices.ContainsFunc(a.Con, mayNotBe)
}

func rightLatches(a api.Aig) bool {
	for i, l := range a.L {
		if !mayReset(l.Reset, latchLiteral(a.I, i)) {
			return false
		}
	}
	return true
}

func rightGates(a api.Aig) bool {
	for i, g := range a.G {
		if g.B < 0 || g.B > g.A || g.A >= gateLiteral(a.I, len(a.L), i) {
			return false
		}
	}
	return true
}

func rightNames(a api.Aig) bool {
	// At first a name of no kind, which each one is behind.
	var ahead api.Name
	for _, n := range a.Names {
		if n.At < 0 || n.At >= howMany(a, n.Kind) || !lex.IsName(n.S) || !isBehind(n, ahead) {
			return false
		}
		ahead = n
	}
	return true
}

// lastLiteral is the greatest literal that there is, with so many variables behind variable 0.
func lastLiteral(vars int) int { return 2*vars + 1 }

// mayReset: may a latch of that literal be so at first?
func mayReset(reset, literal int) bool { return reset == 0 || reset == 1 || reset == literal }

// howMany is how many of a kind there are, which names may be of; of what is no kind there are none.
func howMany(a api.Aig, kind byte) int {
	switch kind {
	case 'i':
		return a.I
	case 'l':
		return len(a.L)
	case 'o':
		return len(a.Outs)
	case 'b':
		return len(a.Bad)
	case 'c':
		return len(a.Con)
	}
	return 0
}

// isBehind: does a name stand behind another one?
func isBehind(n, ahead api.Name) bool {
	if n.Kind == ahead.Kind {
		return n.At > ahead.At
	}
	return strings.IndexByte(kinds, n.Kind) > strings.IndexByte(kinds, ahead.Kind)
}
