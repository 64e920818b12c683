// Package lex is layer 1: see shared/doc/01-lex.md.
package lex

import (
	"bytes"
	"unicode/utf8"

	"vidimus/api"
)

// mostSevens is how many bytes MaxNum has; a longer row is no number's, so Take needs to look no further.
const mostSevens = 5

// Is: does a word stand there?
func Is(b []byte, at int, s string) (int, bool) {
	if !isPlace(b, at) {
		return 0, false
	}
	if len(s) > len(b)-at || string(b[at:at+len(s)]) != s {
		return at, false
	}
	return at + len(s), true
}

// Number is a number that stands there.
func Number(b []byte, at, most int) (int, int, api.Errno) {
	if !isPlace(b, at) {
		return 0, 0, api.ErrForm
	}
	end := behindRow(b, at, '9')
	if end == at || b[at] == '0' && end > at+1 {
		return 0, at, api.ErrForm
	}
	n := valueOf(b[at:end])
	if n > most || n > api.MaxNum {
		return 0, at, api.ErrLarge
	}
	return n, end, api.OK
}

// Signed is a number that stands there, below 0 or not.
func Signed(b []byte, at, most int) (int, int, api.Errno) {
	first, minus := Is(b, at, "-")
	if !minus {
		return Number(b, at, most)
	}
	// Asked ahead of Number: -0 is ErrForm even if 0 is above most.
	if _, zero := Is(b, first, "0"); zero {
		return 0, at, api.ErrForm
	}
	n, next, e := Number(b, first, most)
	if e != api.OK {
		return 0, at, e
	}
	return -n, next, api.OK
}

// Ones is a row of bits that stands there.
func Ones(b []byte, at, most int) (string, int, api.Errno) {
	if !isPlace(b, at) {
		return "", 0, api.ErrForm
	}
	end := behindRow(b, at, '1')
	if end == at {
		return "", at, api.ErrForm
	}
	if end-at > most {
		return "", at, api.ErrLarge
	}
	return string(b[at:end]), end, api.OK
}

// Name is a name that stands there.
func Name(b []byte, at int) (string, int, api.Errno) {
	if !isPlace(b, at) {
		return "", 0, api.ErrForm
	}
	end := len(b)
	if n := bytes.IndexByte(b[at:], '\n'); n >= 0 {
		end = at + n
	}
	s := string(b[at:end])
	if !IsName(s) {
		return "", at, api.ErrForm
	}
	return s, end, api.OK
}

// IsName: is it a name?
func IsName(s string) bool {
	// A range tells a wrong byte as U+FFFD, which a name may well have: so it is asked ahead.
	if !utf8.ValidString(s) {
		return false
	}
	runes := 0
	for _, r := range s {
		runes++
		if runes > api.MaxName || !mayName(r) {
			return false
		}
	}
	return runes > 0
}

// Take is a number of seven bits that stands there.
func Take(b []byte, at int) (int, int, api.Errno) {
	if !isPlace(b, at) {
		return 0, 0, api.ErrForm
	}
	n := 0
	for i, c := range b[at:min(len(b), at+mostSevens)] {
		n += int(c%128) << (7 * i)
		if c >= 128 {
			continue
		}
		// A last byte of 0 behind others adds nothing: the number needs fewer bytes.
		if c == 0 && i > 0 || n > api.MaxNum {
			break
		}
		return n, at + i + 1, api.OK
	}
	return 0, at, api.ErrForm
}

// Put is a number's bytes.
func Put(n int) []byte {
	if n < 0 || n > api.MaxNum {
		return nil
	}
	var out []byte
	for ; n >= 128; n /= 128 {
		out = append(out, byte(n%128)+128)
	}
	return append(out, byte(n))
}

func isPlace(b []byte, at int) bool { return at >= 0 && at <= len(b) }

// behindRow is the place behind the longest row of bytes from '0' to last that stands there.
func behindRow(b []byte, at int, last byte) int {
	for at < len(b) && b[at] >= '0' && b[at] <= last {
		at++
	}
	return at
}

// valueOf is what figures tell. It stops above MaxNum, lest a long row go round.
func valueOf(figures []byte) int {
	n := 0
	for _, c := range figures {
		n = n*10 + int(c-'0')
		if n > api.MaxNum {
			break
		}
	}
	return n
}

func mayName(r rune) bool { return r >= 32 && r != 127 }
