package tern

import (
	"vidimus/aig"
	"vidimus/api"
)

// teller has what may be told of variables' values: a literal's, and those of a row of literals.
type teller struct {
	literal func(l int) api.Tri
	row     func(literals []int) []api.Tri
}

// tellerOf tells what these values are when it is asked.
func tellerOf(v []api.Tri) teller {
	literal := func(l int) api.Tri {
		if l < 0 || l/2 >= len(v) {
			return api.X
		}
		if l%2 == 1 {
			return Not(v[l/2])
		}
		return v[l/2]
	}
	row := func(literals []int) []api.Tri {
		told := make([]api.Tri, len(literals))
		for i, l := range literals {
			told[i] = literal(l)
		}
		return told
	}
	return teller{literal, row}
}

// nexts are the literals that latches are next.
func nexts(latches []api.Latch) []int {
	literals := make([]int, len(latches))
	for i, l := range latches {
		literals[i] = l.Next
	}
	return literals
}

// valuesOf are those of all variables, of a state and inputs that have the model's shape.
func valuesOf(a api.Aig, state, in []api.Tri) []api.Tri {
	v := make([]api.Tri, aig.Vars(a)+1)
	first := 1 + copy(v[1:], in)
	first += copy(v[first:], state)
	literal := tellerOf(v).literal
	// In order: what a gate takes stands ahead of it.
	for i, g := range a.G {
		v[first+i] = And(literal(g.A), literal(g.B))
	}
	return v
}
