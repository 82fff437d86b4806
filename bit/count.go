package bit

import (
	"iter"
	"slices"

	"lightsieve/api"
)

// Count returns how many pictures fit cells.
func Count(f api.Field, c []api.Cell) (int, api.Errno) {
	if !ValidCells(f, c) {
		return 0, api.ErrInvalid
	}
	n := 0
	for range fitting(f, c) {
		n++
	}
	return n, api.OK
}

// First returns the first picture that fits cells.
func First(f api.Field, c []api.Cell) ([]int, api.Errno) {
	if !ValidCells(f, c) {
		return nil, api.ErrInvalid
	}
	for x := range fitting(f, c) {
		return slices.Clone(x), api.OK
	}
	return nil, api.ErrNone
}

// Bounds returns the span from the least to the greatest number of a pixel in the pictures that fit cells.
func Bounds(f api.Field, c []api.Cell, pixel int) (api.Span, api.Errno) {
	if !ValidCells(f, c) {
		return api.Span{}, api.ErrInvalid
	}
	if pixel < 0 || pixel >= f.Pixels {
		return api.Span{}, api.ErrName
	}
	spans := bounds(f, c)
	if spans == nil {
		return api.Span{}, api.ErrNone
	}
	return spans[pixel], api.OK
}

// Known returns the pixels, ascending, that have the same number in all pictures that fit cells.
func Known(f api.Field, c []api.Cell) ([]int, api.Errno) {
	if !ValidCells(f, c) {
		return nil, api.ErrInvalid
	}
	spans := bounds(f, c)
	if spans == nil {
		return nil, api.ErrNone
	}
	var known []int
	for j, span := range spans {
		if span.Lo == span.Hi {
			known = append(known, j)
		}
	}
	return known, api.OK
}

// bounds are those of all pixels, and none if no picture fits.
func bounds(f api.Field, c []api.Cell) []api.Span {
	var spans []api.Span
	for x := range fitting(f, c) {
		if spans == nil {
			spans = slices.Repeat([]api.Span{{Lo: f.Top, Hi: 0}}, f.Pixels)
		}
		for j, n := range x {
			spans[j] = api.Span{Lo: min(spans[j].Lo, n), Hi: max(spans[j].Hi, n)}
		}
	}
	return spans
}

// fitting yields the pictures that fit cells, ascending. The list is the same one each time.
func fitting(f api.Field, c []api.Cell) iter.Seq[[]int] {
	return func(yield func([]int) bool) {
		for x := range pictures(f) {
			if all(c, holds(x)) && !yield(x) {
				return
			}
		}
	}
}

// pictures yields all pictures of a field, ascending. The list is the same one each time.
func pictures(f api.Field) iter.Seq[[]int] {
	return func(yield func([]int) bool) {
		x := make([]int, f.Pixels)
		for yield(x) && advance(x, f.Top) {
		}
	}
}

// advance turns a picture into the next one, if there is one: the last number that can grow does, and those behind it begin again.
func advance(x []int, top int) bool {
	for i := len(x) - 1; i >= 0; i-- {
		if x[i] < top {
			x[i]++
			return true
		}
		x[i] = 0
	}
	return false
}
