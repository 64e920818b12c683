package sim

import (
	"vidimus/aig"
	"vidimus/api"
)

// values are those of variables, from 0 on.
type values []bool

// valuesOf are those of all variables, of a state and inputs that have the model's shape.
func valuesOf(a api.Aig, state, in []bool) values {
	v := make(values, aig.Vars(a)+1)
	copy(v[1:], in)
	copy(v[1+len(in):], state)
	gates := v[1+len(in)+len(state):]
	isTrue := v.isTrue
	// In order: what a gate takes stands ahead of it.
	for i, g := range a.G {
		gates[i] = isTrue(g.A) && isTrue(g.B)
	}
	return v
}

// isTrue: is that literal true? What is none of theirs isn't.
func (v values) isTrue(literal int) bool {
	if literal < 0 || literal/2 >= len(v) {
		return false
	}
	turned := literal%2 == 1
	return v[literal/2] != turned
}

// rowOf is what is told of each of a list.
func rowOf[T any](list []T, tell func(x T) bool) []bool {
	row := make([]bool, len(list))
	for i, x := range list {
		row[i] = tell(x)
	}
	return row
}
