package lin

import (
	"slices"

	"lightsieve/api"
	"lightsieve/mask"
)

// Possible reports whether some picture of fractions makes a reading.
func Possible(m api.Mask, y []int) (bool, api.Errno) {
	if e := read(m, y); e != api.OK {
		return false, e
	}
	return reduceAll(m, oneOf(y)).possible(), api.OK
}

// Conflict returns how often each row is to be added so that nothing is read, but the reading's sum is not 0.
func Conflict(m api.Mask, y []int) ([]int, api.Errno) {
	if e := read(m, y); e != api.OK {
		return nil, e
	}
	r := reduceAll(m, whichOf(m))
	for i := r.rank(); i < len(r.rows); i++ {
		if z := r.behind(i); product(z, y) != 0 {
			return shorten(z), api.OK
		}
	}
	return nil, api.ErrNone
}

// Denies reports whether a list is a conflict of a reading.
func Denies(m api.Mask, y, z []int) bool {
	if !Reading(m, y) || !within(z, maxNumber) {
		return false
	}
	sums, e := mask.Back(m, z)
	return e == api.OK && !slices.ContainsFunc(sums, nonzero) && product(z, y) != 0
}

// Any returns the picture that makes a reading and is 0 at all free pixels.
func Any(m api.Mask, y []int) ([]api.Ratio, api.Errno) {
	if e := read(m, y); e != api.OK {
		return nil, e
	}
	r := reduceAll(m, oneOf(y))
	if !r.possible() {
		return nil, api.ErrState
	}
	return r.solved(), api.OK
}

func product(a, b []int) int {
	sum := 0
	for i, n := range a {
		sum += n * b[i]
	}
	return sum
}
