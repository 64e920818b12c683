package drup

import (
	"slices"

	"vidimus/api"
	"vidimus/unit"
)

// change is a step of one of two kinds: its clause is added, or taken.
type change interface {
	// do is the clauses of n variables that there are behind the step, or why it can't be done.
	do(n int, there [][]int) ([][]int, api.Errno)
}

type added struct{ c []int }

type taken struct{ c []int }

func (a added) do(n int, there [][]int) ([][]int, api.Errno) {
	if !unit.Refutes(n, there, a.c) {
		return nil, api.ErrProof
	}
	return append(there, a.c), api.OK
}

func (t taken) do(_ int, there [][]int) ([][]int, api.Errno) {
	isIt := func(c []int) bool { return slices.Equal(c, t.c) }
	first := slices.IndexFunc(there, isIt)
	if first < 0 {
		return nil, api.ErrNone
	}
	return slices.Delete(there, first, first+1), api.OK
}

// changeOf tells a step by its kind, and its clause as a set.
func changeOf(s api.Step) change {
	c := unit.Sort(s.C)
	if s.Del {
		return taken{c}
	}
	return added{c}
}

// Check checks a proof.
func Check(f api.Cnf, p []api.Step) (int, api.Errno) {
	// All clauses are kept as sets: these refute as much, and one that is taken away is found by what it is.
	there := make([][]int, len(f.C))
	for i, c := range f.C {
		there[i] = unit.Sort(c)
	}
	for at, s := range p {
		step := changeOf(s)
		next, e := step.do(f.N, there)
		if e != api.OK {
			return at, e
		}
		if a, adds := step.(added); adds && len(a.c) == 0 {
			return at, api.OK
		}
		there = next
	}
	return len(p), api.ErrProof
}
