package dual

import (
	"iter"
	"math/bits"
	"slices"

	"lightsieve/api"
	"lightsieve/lin"
	"lightsieve/mask"
)

// No number of a shade is greater.
const maxShade = 1000000

// Shade returns how often each row is to be added so that no pixel adds less than nothing, but the reading's sum is below 0.
func Shade(m api.Mask, y []int) ([]int, api.Errno) {
	q, e := ask(m, y)
	if e != api.OK {
		return nil, e
	}
	for z := range q.edges() {
		if Shades(m, y, z) {
			return z, api.OK
		}
	}
	return nil, api.ErrNone
}

// Shades reports whether a list is a shade of a reading.
func Shades(m api.Mask, y, z []int) bool {
	seen, e := mask.Back(m, z)
	if e != api.OK || !lin.Reading(m, y) {
		return false
	}
	return slices.Min(seen) >= 0 && product(z, y) < 0 && slices.Max(z) <= maxShade && slices.Min(z) >= -maxShade
}

// edges yields lists among which there is a shade of a dark reading: those that see nothing at all, for an impossible one.
// Otherwise the lists that see no pixel below 0 are, but for some that see nothing, sums of those on the edges of their cone, which see nothing at one independent column less than the rank.
func (q question) edges() iter.Seq[[]int] {
	return func(yield func([]int) bool) {
		if z, e := lin.Conflict(q.m, q.y); e == api.OK && !both(z, yield) {
			return
		}
		rank, _ := lin.Rank(q.m)
		for set := range 1 << len(q.m[0]) {
			if bits.OnesCount(uint(set)) != rank-1 {
				continue
			}
			for _, z := range blind(q.m, set) {
				if !both(z, yield) {
					return
				}
			}
		}
	}
}

// blind are lists that see nothing at a set of columns; a line of zeros is put before these, for there may be none.
func blind(m api.Mask, set int) [][]int {
	lines := api.Mask{make([]int, len(m))}
	for j := range m[0] {
		if set>>j&1 == 1 {
			lines = append(lines, columns(m, j)...)
		}
	}
	lists, _ := lin.Kernel(lines)
	return lists
}

// both yields a list, and then its opposite.
func both(z []int, yield func([]int) bool) bool {
	if !yield(z) {
		return false
	}
	opposite := make([]int, len(z))
	for i, n := range z {
		opposite[i] = -n
	}
	return yield(opposite)
}
