// Package line holds what the texts of formulas, of models and of proofs have in common: words that should stand at a place, and the lines of clauses.
package line

import (
	"strconv"
	"strings"

	"vidimus/api"
	"vidimus/lex"
)

// The words of the lines: each is wrong as a whole, where it begins.
const (
	Blank = " "
	End   = "\n"
	Last  = "0\n"
)

// Tell writes a line's literals, and what ends them.
func Tell(out *strings.Builder, literals ...int) {
	for _, x := range literals {
		out.WriteString(strconv.Itoa(x))
		out.WriteString(Blank)
	}
	out.WriteString(Last)
}

// Behind is the place behind a word that should stand there.
func Behind(b []byte, at int, word string) (int, api.Errno) {
	next, is := lex.Is(b, at, word)
	if !is {
		return at, api.ErrForm
	}
	return next, api.OK
}

// Clause is the clause of n variables whose line stands there, and the place behind it; else none, and the place of what is first wrong.
func Clause(b []byte, at, n int) ([]int, int, api.Errno) {
	var c []int
	for {
		x, next, e := lex.Signed(b, at, n)
		if e != api.OK {
			return nil, at, e
		}
		if x == 0 {
			return ended(c, b, next)
		}
		// Asked ahead of the blank: the literal that is one too many is wrong where it begins.
		if len(c) == api.MaxLits {
			return nil, at, api.ErrLarge
		}
		c = append(c, x)
		at, e = Behind(b, next, Blank)
		if e != api.OK {
			return nil, at, e
		}
	}
}

// ended is a clause whose literals are all read, and the place behind its line's end.
func ended(c []int, b []byte, at int) ([]int, int, api.Errno) {
	next, e := Behind(b, at, End)
	if e != api.OK {
		return nil, at, e
	}
	return c, next, api.OK
}
