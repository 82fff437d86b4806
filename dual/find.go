package dual

import (
	"iter"
	"slices"

	"lightsieve/api"
	"lightsieve/lin"
	"lightsieve/mask"
)

// Finds reports whether a shown picture is the only least picture of its reading.
func Finds(m api.Mask, x []int) (bool, api.Errno) {
	y, e := mask.Read(m, x)
	if e != api.OK {
		return false, e
	}
	if !lin.Reading(m, y) {
		return false, api.ErrState
	}
	circuits, e := lin.Circuits(m)
	return found(circuits, x), e
}

// Missed returns the first picture, compared as a list, of values from -1 to 1 with at most k that are not 0, that is not found.
func Missed(m api.Mask, k int) ([]int, api.Errno) {
	circuits, e := lin.Circuits(m)
	if e != api.OK {
		return nil, e
	}
	if k < 1 || k > api.MaxPixels {
		return nil, api.ErrRange
	}
	for x := range dots(len(m[0]), k) {
		if !found(circuits, x) {
			return slices.Clone(x), api.OK
		}
	}
	return nil, api.ErrNone
}

// found reports whether each step along a circuit, one way or the other, makes the norm greater.
// Other pictures with the same reading differ by a sum of circuits, no two of which have opposite signs at a pixel, so that their sizes add up.
func found(circuits [][]int, x []int) bool {
	for _, h := range circuits {
		lit, dark := 0, 0
		for j, n := range h {
			switch {
			case x[j] > 0:
				lit += n
			case x[j] < 0:
				lit -= n
			default:
				dark += max(n, -n)
			}
		}
		if max(lit, -lit) >= dark {
			return false
		}
	}
	return true
}

// dots yields the lists of n numbers from -1 to 1 with at most k that are not 0, in ascending order. The list is the same one each time.
func dots(n, k int) iter.Seq[[]int] {
	return func(yield func([]int) bool) {
		x := make([]int, n)
		var fill func(j, left int) bool
		fill = func(j, left int) bool {
			if j == n {
				return yield(x)
			}
			for value := -1; value <= 1; value++ {
				if value != 0 && left == 0 {
					continue
				}
				x[j] = value
				if !fill(j+1, left-value*value) {
					return false
				}
			}
			return true
		}
		fill(0, k)
	}
}
