package wit

import (
	"strings"

	"vidimus/api"
	"vidimus/scan"
)

// signs are the texts of values, each at its value's number.
const signs = "01x"

// Parse is a text's trace.
func Parse(a api.Aig, b []byte) (api.Trace, int, api.Errno) {
	return scan.Whole(b, func(r *scan.Reader) (t api.Trace) {
		r.Word(firstWord)
		t.Bad = r.Number(len(a.Bad) - 1)
		r.Word(scan.End)
		readInit(r, a.L, func(x api.Tri) { t.Init = append(t.Init, x) })
		readFrames(r, a.I, func(row []api.Tri) { t.In = append(t.In, row) })
		r.NoMore()
		return t
	})
}

func readInit(r *scan.Reader, latches []api.Latch, tell func(x api.Tri)) {
	for _, l := range latches {
		first := r.At()
		x := readValue(r)
		if !mayStart(l, x) {
			r.Stop(first, api.ErrForm)
		}
		tell(x)
	}
	r.Word(scan.End)
}

// readFrames reads frames, and what ends them, which may not stand ahead of the first one.
func readFrames(r *scan.Reader, inputs int, tell func(row []api.Tri)) {
	tell(readFrame(r, inputs))
	for frames := 1; !r.Is(lastWord); frames++ {
		if frames == api.MaxSteps {
			r.Stop(r.At(), api.ErrLarge)
		}
		tell(readFrame(r, inputs))
	}
}

func readFrame(r *scan.Reader, inputs int) []api.Tri {
	// Grown value by value: how many inputs there are, without a text that is as long, asks for no memory.
	var row []api.Tri
	for range inputs {
		row = append(row, readValue(r))
	}
	r.Word(scan.End)
	return row
}

func readValue(r *scan.Reader) api.Tri {
	return api.Tri(strings.IndexByte(signs, r.OneOf(signs)))
}
