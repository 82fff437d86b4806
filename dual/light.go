package dual

import (
	"iter"
	"slices"

	"lightsieve/api"
	"lightsieve/lin"
	"lightsieve/sparse"
)

// Light returns a light picture that makes a reading.
func Light(m api.Mask, y []int) ([]api.Ratio, api.Errno) {
	q, e := ask(m, y)
	if e != api.OK {
		return nil, e
	}
	for x := range q.lights() {
		return x, api.OK
	}
	return nil, api.ErrNone
}

// IsLight reports whether a picture has no value below 0 and makes a reading.
func IsLight(m api.Mask, y []int, x []api.Ratio) bool {
	return lin.Makes(m, x, y) && !slices.ContainsFunc(x, negative)
}

// Brightest returns the greatest value of a pixel in light pictures that make a reading. If there is one, some corner of all these pictures has it.
func Brightest(m api.Mask, y []int, pixel int) (api.Ratio, api.Errno) {
	q, e := askOf(m, y, pixel)
	if e != api.OK {
		return api.Ratio{}, e
	}
	var values []api.Ratio
	for x := range q.lights() {
		values = append(values, x[pixel])
	}
	if len(values) == 0 {
		return api.Ratio{}, api.ErrNone
	}
	if unbounded(m, pixel) {
		return api.Ratio{}, api.ErrState
	}
	return slices.MaxFunc(values, lin.Compare), api.OK
}

// lights yields the fits that are light: these are the corners of all light pictures that make the reading, and there is one unless it is dark.
func (q question) lights() iter.Seq[[]api.Ratio] {
	return func(yield func([]api.Ratio) bool) {
		fits, _ := sparse.Fits(q.m, q.y, api.MaxPixels)
		for _, f := range fits {
			if slices.ContainsFunc(f.Values, negative) {
				continue
			}
			x, _ := sparse.Picture(q.m, f)
			if !yield(x) {
				return
			}
		}
	}
}

// unbounded asks the circuits alone, since a light kernel vector is a sum of light ones. The first number of a circuit is above 0, so that no opposite of one is light.
func unbounded(m api.Mask, pixel int) bool {
	circuits, _ := lin.Circuits(m)
	return slices.ContainsFunc(circuits, func(h []int) bool { return h[pixel] > 0 && slices.Min(h) >= 0 })
}

func negative(r api.Ratio) bool {
	return r.N < 0
}
