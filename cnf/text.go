package cnf

import (
	"strconv"
	"strings"

	"vidimus/api"
	"vidimus/lex"
)

// The words of the texts: each is wrong as a whole, where it begins.
const (
	formulaWord = "p cnf "
	modelWord   = "v "
	lastWord    = "0\n"
	blank       = " "
	lineEnd     = "\n"
)

// tell writes what a clause's line and a model's have in common: literals, and what ends them.
func tell(out *strings.Builder, literals ...int) {
	for _, x := range literals {
		out.WriteString(strconv.Itoa(x))
		out.WriteString(blank)
	}
	out.WriteString(lastWord)
}

// behind is the place behind a word that should stand there.
func behind(b []byte, at int, word string) (int, api.Errno) {
	next, is := lex.Is(b, at, word)
	if !is {
		return at, api.ErrForm
	}
	return next, api.OK
}

// readHead is how many variables and clauses the first line tells, and the place behind it.
func readHead(b []byte) (n, clauses, at int, e api.Errno) {
	at, e = behind(b, 0, formulaWord)
	if e == api.OK {
		n, at, e = lex.Number(b, at, api.MaxVars)
	}
	if e == api.OK {
		at, e = behind(b, at, blank)
	}
	if e == api.OK {
		clauses, at, e = lex.Number(b, at, api.MaxClauses)
	}
	if e == api.OK {
		at, e = behind(b, at, lineEnd)
	}
	return n, clauses, at, e
}

// readClause is the clause of n variables whose line stands there, and the place behind it.
func readClause(b []byte, at, n int) ([]int, int, api.Errno) {
	var c []int
	for {
		x, next, e := lex.Signed(b, at, n)
		if e != api.OK {
			return nil, at, e
		}
		if x == 0 {
			next, e = behind(b, next, lineEnd)
			return c, next, e
		}
		// Asked ahead of the blank: the literal that is one too many is wrong where it begins.
		if len(c) == api.MaxLits {
			return nil, at, api.ErrLarge
		}
		c = append(c, x)
		at, e = behind(b, next, blank)
		if e != api.OK {
			return nil, at, e
		}
	}
}

// readValue is the value of variable v that stands there, and the place behind it.
func readValue(b []byte, at, v int) (bool, int, api.Errno) {
	at, isFalse := lex.Is(b, at, "-")
	next, e := behind(b, at, strconv.Itoa(v)+blank)
	return !isFalse, next, e
}
