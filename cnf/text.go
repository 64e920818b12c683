package cnf

import (
	"strconv"

	"vidimus/api"
	"vidimus/lex"
	"vidimus/line"
)

// The words with which texts begin: each is wrong as a whole, where it begins.
const (
	formulaWord = "p cnf "
	modelWord   = "v "
)

// readHead is how many variables and clauses the first line tells, and the place behind it.
func readHead(b []byte) (n, clauses, at int, e api.Errno) {
	at, e = line.Behind(b, 0, formulaWord)
	if e == api.OK {
		n, at, e = lex.Number(b, at, api.MaxVars)
	}
	if e == api.OK {
		at, e = line.Behind(b, at, line.Blank)
	}
	if e == api.OK {
		clauses, at, e = lex.Number(b, at, api.MaxClauses)
	}
	if e == api.OK {
		at, e = line.Behind(b, at, line.End)
	}
	return n, clauses, at, e
}

// readValue is the value of variable v that stands there, and the place behind it.
func readValue(b []byte, at, v int) (bool, int, api.Errno) {
	at, isFalse := lex.Is(b, at, "-")
	next, e := line.Behind(b, at, strconv.Itoa(v)+line.Blank)
	return !isFalse, next, e
}
