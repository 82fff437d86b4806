package bit

import (
	"iter"
	"math/bits"

	"lightsieve/api"
)

// Clash is asked of no more cells.
const maxClash = 12

// missed are cells that a picture does not fit, with a bit for each: 32 are enough for MaxCells.
type missed uint32

// Idle returns the indexes of the cells, ascending, without each of which alone as many pictures fit.
func Idle(f api.Field, c []api.Cell) ([]int, api.Errno) {
	if !ValidCells(f, c) {
		return nil, api.ErrInvalid
	}
	var needed missed
	for x := range pictures(f) {
		// Without the only cell that it misses a further picture fits.
		if m := missedBy(x, c); bits.OnesCount32(uint32(m)) == 1 {
			needed |= m
		}
	}
	var idle []int
	for i := range c {
		if !needed.has(i) {
			idle = append(idle, i)
		}
	}
	return idle, api.OK
}

// Clash returns the first ones of the fewest cells that no picture fits.
func Clash(f api.Field, c []api.Cell) ([]int, api.Errno) {
	if !ValidCells(f, c) {
		return nil, api.ErrInvalid
	}
	if len(c) > maxClash {
		return nil, api.ErrLimit
	}
	kinds := map[missed]bool{}
	for x := range pictures(f) {
		kinds[missedBy(x, c)] = true
	}
	for size := range len(c) + 1 {
		for cells := range sets(len(c), size) {
			if clash(cells, kinds) {
				return cells, api.OK
			}
		}
	}
	return nil, api.ErrNone
}

func missedBy(x []int, c []api.Cell) missed {
	var m missed
	fits := holds(x)
	for i, cell := range c {
		if !fits(cell) {
			m |= 1 << i
		}
	}
	return m
}

func (m missed) has(cell int) bool {
	return m>>cell&1 == 1
}

// clash reports whether each kind of picture misses one of some cells.
func clash(cells []int, kinds map[missed]bool) bool {
	var set missed
	for _, i := range cells {
		set |= 1 << i
	}
	for m := range kinds {
		if m&set == 0 {
			return false
		}
	}
	return true
}

// sets yields the sets of some of the numbers below n, in ascending order of their lists. The list is the same one each time.
func sets(n, size int) iter.Seq[[]int] {
	return func(yield func([]int) bool) {
		set := make([]int, size)
		var choose func(i, from int) bool
		choose = func(i, from int) bool {
			if i == size {
				return yield(set)
			}
			for k := from; k <= n-size+i; k++ {
				set[i] = k
				if !choose(i+1, k+1) {
					return false
				}
			}
			return true
		}
		choose(0, 0)
	}
}
