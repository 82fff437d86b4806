package lin

import (
	"iter"
	"slices"

	"lightsieve/api"
	"lightsieve/mask"
)

// Circuits returns all circuits, ordered by how many pixels they have, and then by these.
func Circuits(m api.Mask) ([][]int, api.Errno) {
	if !mask.Valid(m) {
		return nil, api.ErrInvalid
	}
	return slices.Collect(circuits(m)), api.OK
}

// Spark returns the least number of pixels in a circuit.
func Spark(m api.Mask) (int, api.Errno) {
	h, e := Circuit(m)
	if e != api.OK {
		return 0, e
	}
	pixels := 0
	for _, n := range h {
		if n != 0 {
			pixels++
		}
	}
	return pixels, api.OK
}

// Circuit returns the first of Circuits.
func Circuit(m api.Mask) ([]int, api.Errno) {
	if !mask.Valid(m) {
		return nil, api.ErrInvalid
	}
	for h := range circuits(m) {
		return h, api.OK
	}
	return nil, api.ErrNone
}

// circuits yields them in the order of Circuits.
// Without one of its pixels a circuit is independent, so that it has at most one more than the rank.
func circuits(m api.Mask) iter.Seq[[]int] {
	return func(yield func([]int) bool) {
		rank := reduceAll(m, nothing).rank()
		for fewer := range rank + 1 {
			for pixels := range sets(len(m[0]), fewer+1) {
				h, is := circuitOn(m, pixels)
				if is && !yield(h) {
					return
				}
			}
		}
	}
}

// circuitOn finds the circuit with just these pixels: the only kernel vector that they have is 0 at none of them.
func circuitOn(m api.Mask, pixels []int) (h []int, is bool) {
	r := reduce(m, pixels, nothing)
	free := r.free()
	if len(free) != 1 {
		return nil, false
	}
	part := r.kernel(free[0])
	if slices.Contains(part, 0) {
		return nil, false
	}
	if part[0] < 0 {
		turn(part)
	}
	h = make([]int, len(m[0]))
	for k, j := range pixels {
		h[j] = part[k]
	}
	return h, true
}

// sets yields the sets of some of the numbers below n, in ascending order of their lists. The list is the same one each time.
func sets(n, size int) iter.Seq[[]int] {
	return func(yield func([]int) bool) {
		set := make([]int, size)
		var choose func(k, from int) bool
		choose = func(k, from int) bool {
			if k == size {
				return yield(set)
			}
			for j := from; j <= n-size+k; j++ {
				set[k] = j
				if !choose(k+1, j+1) {
					return false
				}
			}
			return true
		}
		choose(0, 0)
	}
}
