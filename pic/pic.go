// Package pic is layer 1: pictures, lists of numbers, and transforms that are undone exactly.
//
// Every error is told in this order: ErrInvalid, ErrRange, ErrSize or ErrNone, ErrLimit.
package pic

import (
	"cmp"
	"math/bits"
	"slices"

	"lightsieve/api"
)

// Valid reports whether a picture has sides within MaxSide and a number within MaxValue for each pixel.
func Valid(p api.Picture) bool {
	// The sides are asked first: the product of unlimited ones may wrap around.
	if !side(p.Wide) || !side(p.High) {
		return false
	}
	return len(p.Pix) == p.Wide*p.High && within(p.Pix, api.MaxValue)
}

// ValidList reports whether a list has 1 to MaxList numbers within MaxValue.
func ValidList(l []int) bool {
	return len(l) >= 1 && len(l) <= api.MaxList && within(l, api.MaxValue)
}

// Power reports whether a list is valid and its length a power of two.
func Power(l []int) bool {
	return ValidList(l) && powerLong(l)
}

// At returns the pixel at x, y.
func At(p api.Picture, x, y int) (int, api.Errno) {
	if !Valid(p) {
		return 0, api.ErrInvalid
	}
	if x < 0 || x >= p.Wide || y < 0 || y >= p.High {
		return 0, api.ErrRange
	}
	return p.Pix[x+p.Wide*y], api.OK
}

// Size returns the sum of a list's numbers without their signs.
func Size(l []int) (int, api.Errno) {
	if !ValidList(l) {
		return 0, api.ErrInvalid
	}
	return sizes(l...), api.OK
}

// Support returns the indexes of the numbers that are not 0, ascending.
func Support(l []int) ([]int, api.Errno) {
	if !ValidList(l) {
		return nil, api.ErrInvalid
	}
	var support []int
	for i, n := range l {
		if n != 0 {
			support = append(support, i)
		}
	}
	return support, api.OK
}

// Largest returns the indexes of the k numbers with the greatest sizes, ascending; of equal sizes the first ones are taken.
func Largest(l []int, k int) ([]int, api.Errno) {
	if !ValidList(l) {
		return nil, api.ErrInvalid
	}
	if k < 0 || k > len(l) {
		return nil, api.ErrRange
	}
	order := make([]int, len(l))
	for i := range order {
		order[i] = i
	}
	// A stable sort leaves equal sizes in the order of their indexes.
	slices.SortStableFunc(order, func(i, j int) int {
		return cmp.Compare(sizes(l[j]), sizes(l[i]))
	})
	largest := order[:k:k]
	slices.Sort(largest)
	return largest, api.OK
}

// Steps returns the sum of the differences, without signs, of all neighbours in a row or a column.
func Steps(p api.Picture) (int, api.Errno) {
	if !Valid(p) {
		return 0, api.ErrInvalid
	}
	steps := 0
	for i, n := range p.Pix {
		if right := i + 1; right%p.Wide != 0 {
			steps += sizes(p.Pix[right] - n)
		}
		if under := i + p.Wide; under < len(p.Pix) {
			steps += sizes(p.Pix[under] - n)
		}
	}
	return steps, api.OK
}

// Added returns the sum of two pictures with the same sides.
func Added(a, b api.Picture) (api.Picture, api.Errno) {
	if e := matched(a, b); e != api.OK {
		return api.Picture{}, e
	}
	pix := make([]int, len(a.Pix))
	for i := range pix {
		pix[i] = a.Pix[i] + b.Pix[i]
	}
	if !within(pix, api.MaxValue) {
		return api.Picture{}, api.ErrLimit
	}
	return api.Picture{Wide: a.Wide, High: a.High, Pix: pix}, api.OK
}

// Differ returns the indexes of the pixels at which two pictures with the same sides differ, ascending.
func Differ(a, b api.Picture) ([]int, api.Errno) {
	if e := matched(a, b); e != api.OK {
		return nil, e
	}
	var places []int
	for i, n := range a.Pix {
		if n != b.Pix[i] {
			places = append(places, i)
		}
	}
	return places, api.OK
}

func matched(a, b api.Picture) api.Errno {
	if !Valid(a) || !Valid(b) {
		return api.ErrInvalid
	}
	if a.Wide != b.Wide || a.High != b.High {
		return api.ErrSize
	}
	return api.OK
}

func side(n int) bool {
	return n >= 1 && n <= api.MaxSide
}

// The limit is asked on both sides, since the least int has no size.
func within(l []int, limit int) bool {
	return !slices.ContainsFunc(l, func(n int) bool { return n < -limit || n > limit })
}

func powerLong(l []int) bool {
	return len(l) <= api.MaxList && bits.OnesCount(uint(len(l))) == 1
}

func sizes(numbers ...int) int {
	sum := 0
	for _, n := range numbers {
		sum += max(n, -n)
	}
	return sum
}
