// Package scan goes through bytes from the left. What doesn't stand where it should is thrown, so that none who reads has to ask at each word whether the one ahead stood.
package scan

import (
	"strconv"
	"strings"

	"vidimus/api"
	"vidimus/lex"
)

// The words that part others: each is wrong where it begins.
const (
	Blank = " "
	End   = "\n"
)

// wrong is what is first wrong in the bytes, and where.
type wrong struct {
	at int
	e  api.Errno
}

// Reader stands at a place of the bytes.
type Reader struct {
	b  []byte
	at int
}

// Whole is what is read of bytes, of which there may be MaxBytes, and the place behind it; else none, and the place of what is first wrong.
func Whole[T any](b []byte, read func(r *Reader) T) (out T, at int, e api.Errno) {
	defer func() {
		if thrown := recover(); thrown != nil {
			// An assertion of one value: what is thrown otherwise is no fault of the bytes, and isn't told as one.
			w := thrown.(wrong)
			var none T
			out, at, e = none, w.at, w.e
		}
	}()
	r := &Reader{b: b}
	if len(b) > api.MaxBytes {
		r.Stop(0, api.ErrLarge)
	}
	out = read(r)
	return out, r.at, api.OK
}

// Stop throws what is wrong.
func (r *Reader) Stop(at int, e api.Errno) { panic(wrong{at, e}) }

// At is the place of what is read next.
func (r *Reader) At() int { return r.at }

// More: is there more to read?
func (r *Reader) More() bool { return r.at < len(r.b) }

// NoMore asks that there is nothing more to read.
func (r *Reader) NoMore() {
	if r.More() {
		r.Stop(r.at, api.ErrForm)
	}
}

// Is reads a word, if it stands: does it?
func (r *Reader) Is(s string) bool {
	next, is := lex.Is(r.b, r.at, s)
	r.at = next
	return is
}

// Word reads a word that should stand.
func (r *Reader) Word(s string) {
	if !r.Is(s) {
		r.Stop(r.at, api.ErrForm)
	}
}

// NumberWord reads a number that should stand, and what should stand behind it, as one word.
func (r *Reader) NumberWord(n int, then string) { r.Word(strconv.Itoa(n) + then) }

// OneOf reads a byte that should be one of these.
func (r *Reader) OneOf(these string) byte {
	if !r.More() || strings.IndexByte(these, r.b[r.at]) < 0 {
		r.Stop(r.at, api.ErrForm)
	}
	r.at++
	return r.b[r.at-1]
}

// Number reads a number of figures.
func (r *Reader) Number(most int) int {
	n, next, e := lex.Number(r.b, r.at, most)
	r.goOn(next, e)
	return n
}

// NextNumber reads a number of figures with a blank ahead of it.
func (r *Reader) NextNumber(most int) int {
	r.Word(Blank)
	return r.Number(most)
}

// Sevens reads a number of seven bits.
func (r *Reader) Sevens(most int) int {
	first := r.at
	n, next, e := lex.Take(r.b, first)
	r.goOn(next, e)
	if n > most {
		r.Stop(first, api.ErrLarge)
	}
	return n
}

// Name reads a name.
func (r *Reader) Name() string {
	s, next, e := lex.Name(r.b, r.at)
	r.goOn(next, e)
	return s
}

// goOn goes to the place behind what was read, unless it was wrong.
func (r *Reader) goOn(next int, e api.Errno) {
	if e != api.OK {
		r.Stop(next, e)
	}
	r.at = next
}
