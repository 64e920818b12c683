package wit

import "vidimus/api"

// Holes is how many there are.
func Holes(t api.Trace) int {
	holes := 0
	for _, row := range rows(t) {
		for _, x := range row {
			if x == api.X {
				holes++
			}
		}
	}
	return holes
}

// Total: has it no hole?
func Total(t api.Trace) bool { return Holes(t) == 0 }

// Fill fills holes.
func Fill(t api.Trace, m []bool) api.Trace {
	f := &filler{m}
	out := api.Trace{Bad: t.Bad}
	// Init ahead of frames: the filler says of holes in the order in which it comes to them.
	out.Init = f.row(t.Init)
	out.In = filled(f, t.In, (*filler).row)
	return out
}

// filler fills holes, one by one, with what is left to say of them.
type filler struct{ left []bool }

// filled is a new list, of what is filled of each of one, from the left.
func filled[T any](f *filler, list []T, fill func(f *filler, x T) T) []T {
	out := make([]T, len(list))
	for i, x := range list {
		out[i] = fill(f, x)
	}
	return out
}

func (f *filler) row(row []api.Tri) []api.Tri { return filled(f, row, (*filler).value) }

func (f *filler) value(x api.Tri) api.Tri {
	if x != api.X || len(f.left) == 0 {
		return x
	}
	is := f.left[0]
	f.left = f.left[1:]
	if is {
		return 1
	}
	return 0
}
