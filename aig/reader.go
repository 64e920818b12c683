package aig

import (
	"strconv"
	"strings"

	"vidimus/api"
	"vidimus/lex"
)

// wrong is what is first wrong in a text, and where. It is thrown, so that none who reads has to ask at each word whether the one ahead stood.
type wrong struct {
	at int
	e  api.Errno
}

// reader goes through a text from the left.
type reader struct {
	b  []byte
	at int
}

func (r *reader) stop(at int, e api.Errno) { panic(wrong{at, e}) }

// behind goes on to the place behind what was read, unless it was wrong.
func (r *reader) behind(next int, e api.Errno) {
	if e != api.OK {
		r.stop(next, e)
	}
	r.at = next
}

// word reads a word that should stand.
func (r *reader) word(s string) {
	next, is := lex.Is(r.b, r.at, s)
	if !is {
		r.stop(r.at, api.ErrForm)
	}
	r.at = next
}

// numberWord reads a number that should stand, and what should stand behind it, as one word.
func (r *reader) numberWord(n int, then string) { r.word(strconv.Itoa(n) + then) }

// oneOf reads a byte that should be one of these.
func (r *reader) oneOf(these string) byte {
	if r.at == len(r.b) || strings.IndexByte(these, r.b[r.at]) < 0 {
		r.stop(r.at, api.ErrForm)
	}
	r.at++
	return r.b[r.at-1]
}

func (r *reader) number(most int) int {
	n, next, e := lex.Number(r.b, r.at, most)
	r.behind(next, e)
	return n
}

// nextNumber reads a number with a blank ahead of it.
func (r *reader) nextNumber(most int) int {
	r.word(blank)
	return r.number(most)
}

func (r *reader) name() string {
	s, next, e := lex.Name(r.b, r.at)
	r.behind(next, e)
	return s
}
