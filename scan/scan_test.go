package scan_test

import (
	"errors"
	"strconv"
	"strings"
	"testing"

	"vidimus/api"
	"vidimus/scan"
)

// P6.2, P7.2, P10.2: each thing that is read: what it is, and the place behind it; else none, and what is wrong, where it begins.
func TestReads(t *testing.T) {
	word := func(r *scan.Reader) string { r.Word("ab"); return "ab" }
	is := func(r *scan.Reader) string { return strconv.FormatBool(r.Is("ab")) }
	noMore := func(r *scan.Reader) string { r.NoMore(); return "end" }
	numberWord := func(r *scan.Reader) string { r.NumberWord(12, scan.End); return "12" }
	oneOf := func(r *scan.Reader) string { return string(r.OneOf("il")) }
	number := func(r *scan.Reader) string { return strings.Repeat("x", r.Number(9)) }
	nextNumber := func(r *scan.Reader) string { return strings.Repeat("x", r.NextNumber(9)) }
	sevens := func(r *scan.Reader) string { return strings.Repeat("x", r.Sevens(130)) }
	name := func(r *scan.Reader) string { return r.Name() }
	for _, x := range []struct {
		s    string
		read func(r *scan.Reader) string
		want string
		at   int
		e    api.Errno
	}{
		{"abc", word, "ab", 2, api.OK}, {"ac", word, "", 0, api.ErrForm}, {"a", word, "", 0, api.ErrForm}, {"", word, "", 0, api.ErrForm},
		{"abc", is, "true", 2, api.OK}, {"ab", is, "true", 2, api.OK}, {"ac", is, "false", 0, api.OK}, {"a", is, "false", 0, api.OK}, {"", is, "false", 0, api.OK},
		{"", noMore, "end", 0, api.OK}, {"a", noMore, "", 0, api.ErrForm}, {"\n", noMore, "", 0, api.ErrForm},
		{"12\n", numberWord, "12", 3, api.OK}, {"12", numberWord, "", 0, api.ErrForm}, {"1\n", numberWord, "", 0, api.ErrForm},
		{"lx", oneOf, "l", 1, api.OK}, {"x", oneOf, "", 0, api.ErrForm}, {"", oneOf, "", 0, api.ErrForm},
		{"3 ", number, "xxx", 1, api.OK}, {"10", number, "", 0, api.ErrLarge}, {"x", number, "", 0, api.ErrForm}, {"03", number, "", 0, api.ErrForm},
		{" 3 ", nextNumber, "xxx", 2, api.OK}, {"3", nextNumber, "", 0, api.ErrForm}, {" 10", nextNumber, "", 1, api.ErrLarge}, {"  3", nextNumber, "", 1, api.ErrForm},
		{"\x02", sevens, "xx", 1, api.OK}, {"\x82\x01", sevens, strings.Repeat("x", 130), 2, api.OK}, {"\x83\x01", sevens, "", 0, api.ErrLarge}, {"\x83", sevens, "", 0, api.ErrForm}, {"\x80\x00", sevens, "", 0, api.ErrForm}, {"", sevens, "", 0, api.ErrForm},
		{"a b\nc", name, "a b", 3, api.OK}, {"\n", name, "", 0, api.ErrForm}, {"\xff", name, "", 0, api.ErrForm},
	} {
		for _, ahead := range []string{"", "q", "q\xff\n"} {
			got, at, e := scan.Whole([]byte(ahead+x.s), func(r *scan.Reader) string {
				r.Word(ahead)
				return x.read(r)
			})
			if got != x.want || at != len(ahead)+x.at || e != x.e {
				t.Errorf("%q behind %q: %q, %d, %d", x.s, ahead, got, at, e)
			}
		}
	}
}

// P6.2, P7.2: behind what is wrong nothing is read, and what was read ahead of it isn't told.
func TestStop(t *testing.T) {
	got, at, e := scan.Whole([]byte("ab"), func(r *scan.Reader) (out []int) {
		for r.More() {
			out = append(out, r.At())
			r.Word("a")
		}
		return out
	})
	if got != nil || at != 1 || e != api.ErrForm {
		t.Errorf("%v, %d, %d", got, at, e)
	}
	got, at, e = scan.Whole([]byte("aa"), func(r *scan.Reader) (out []int) {
		r.Word("a")
		r.Stop(7, api.ErrKind)
		return []int{1}
	})
	if got != nil || at != 7 || e != api.ErrKind {
		t.Errorf("%v, %d, %d", got, at, e)
	}
}

// P6.2, P7.2: of more than MaxBytes bytes nothing is read.
func TestMaxBytes(t *testing.T) {
	read := func(r *scan.Reader) int { r.Word("x"); return 1 }
	b := []byte(strings.Repeat("x", api.MaxBytes+1))
	if got, at, e := scan.Whole(b[1:], read); got != 1 || at != 1 || e != api.OK {
		t.Errorf("%d, %d, %d", got, at, e)
	}
	if got, at, e := scan.Whole(b, read); got != 0 || at != 0 || e != api.ErrLarge {
		t.Errorf("%d, %d, %d", got, at, e)
	}
}

// What is thrown otherwise isn't told as a fault of the bytes.
func TestOtherPanic(t *testing.T) {
	defer func() {
		if recover() == nil {
			t.Error("told as an answer")
		}
	}()
	scan.Whole(nil, func(*scan.Reader) int { panic(errors.New("another")) })
}
