package aig

import (
	"slices"

	"vidimus/api"
	"vidimus/gates"
	"vidimus/lex"
)

// Right: is it right?
func Right(a api.Aig) bool {
	return rightCounts(a) && rightLiterals(a) && rightLatches(a) && rightGates(a) && rightNames(a)
}

func rightCounts(a api.Aig) bool {
	// The inputs are asked by themselves, lest the sum go round.
	if a.I < 0 || a.I > api.MaxVar || Vars(a) > api.MaxVar {
		return false
	}
	return max(len(a.Outs), len(a.Bad), len(a.Con), len(a.Names)) <= api.MaxRow
}

func rightLiterals(a api.Aig) bool {
	last := gates.HeadOf(a).LastLiteral()
	mayNotBe := func(x int) bool { return x < 0 || x > last }
	nextMayNotBe := func(l api.Latch) bool { return mayNotBe(l.Next) }
	return !slices.ContainsFunc(a.L, nextMayNotBe) && !slices.ContainsFunc(a.Outs, mayNotBe) &&
		!slices.ContainsFunc(a.Bad, mayNotBe) && !slices.ContainsFunc(a.Con, mayNotBe)
}

func rightLatches(a api.Aig) bool {
	h := gates.HeadOf(a)
	for i, l := range a.L {
		if !gates.MayReset(l.Reset, h.LatchLiteral(i)) {
			return false
		}
	}
	return true
}

func rightGates(a api.Aig) bool {
	h := gates.HeadOf(a)
	for i, g := range a.G {
		if g.B < 0 || g.B > g.A || g.A >= h.GateLiteral(i) {
			return false
		}
	}
	return true
}

func rightNames(a api.Aig) bool {
	h := gates.HeadOf(a)
	// At first a name of no kind, which each one is behind.
	var ahead api.Name
	for _, n := range a.Names {
		if n.At < 0 || n.At >= h.HowMany(n.Kind) || !lex.IsName(n.S) || !gates.IsBehind(n, ahead) {
			return false
		}
		ahead = n
	}
	return true
}
