package mask

import (
	"iter"
	"slices"

	"lightsieve/api"
)

// Column returns the numbers of a column, one for each row.
func Column(m api.Mask, j int) ([]int, api.Errno) {
	if !Valid(m) {
		return nil, api.ErrInvalid
	}
	if !there(m, j) {
		return nil, api.ErrName
	}
	return column(m, j), api.OK
}

// Product returns the sum of the products of two columns' numbers.
func Product(m api.Mask, i, j int) (int, api.Errno) {
	if !Valid(m) {
		return 0, api.ErrInvalid
	}
	if !there(m, i) || !there(m, j) {
		return 0, api.ErrName
	}
	return product(column(m, i), column(m, j)), api.OK
}

// Likeness returns the square of the product of two columns by the product of their own squares.
func Likeness(m api.Mask, i, j int) (api.Ratio, api.Errno) {
	if !Valid(m) {
		return api.Ratio{}, api.ErrInvalid
	}
	if !there(m, i) || !there(m, j) {
		return api.Ratio{}, api.ErrName
	}
	return likeness(column(m, i), column(m, j))
}

// Coherence returns the greatest likeness of two different columns.
func Coherence(m api.Mask) (api.Ratio, api.Errno) {
	if !Valid(m) {
		return api.Ratio{}, api.ErrInvalid
	}
	if len(m[0]) < 2 {
		return api.Ratio{}, api.ErrNone
	}
	greatest := api.Ratio{N: 0, D: 1}
	for i, j := range pairs(m) {
		r, e := likeness(column(m, i), column(m, j))
		if e != api.OK {
			return api.Ratio{}, e
		}
		if r.N*greatest.D > greatest.N*r.D {
			greatest = r
		}
	}
	return greatest, api.OK
}

// Alike returns the pairs of columns that are equal but for the signs of one of them, ascending.
func Alike(m api.Mask) ([][2]int, api.Errno) {
	if !Valid(m) {
		return nil, api.ErrInvalid
	}
	var found [][2]int
	for i, j := range pairs(m) {
		if alike(column(m, i), column(m, j)) {
			found = append(found, [2]int{i, j})
		}
	}
	return found, api.OK
}

// pairs yields the columns i < j, in ascending order.
func pairs(m api.Mask) iter.Seq2[int, int] {
	return func(yield func(int, int) bool) {
		for i := range m[0] {
			for j := i + 1; j < len(m[0]); j++ {
				if !yield(i, j) {
					return
				}
			}
		}
	}
}

func column(m api.Mask, j int) []int {
	numbers := make([]int, len(m))
	for i, row := range m {
		numbers[i] = row[j]
	}
	return numbers
}

func likeness(a, b []int) (api.Ratio, api.Errno) {
	squares := product(a, a) * product(b, b)
	// No square is below 0, so that the product is 0 just for a column of zeros.
	if squares == 0 {
		return api.Ratio{}, api.ErrNone
	}
	p := product(a, b)
	return lowest(p*p, squares), api.OK
}

// lowest takes a numerator of 0 to 0 / 1, since its common divisor with any number is that number.
func lowest(n, d int) api.Ratio {
	a, b := n, d
	for b != 0 {
		a, b = b, a%b
	}
	return api.Ratio{N: n / a, D: d / a}
}

func alike(a, b []int) bool {
	return slices.Equal(a, b) || slices.EqualFunc(a, b, func(x, y int) bool { return x == -y })
}
