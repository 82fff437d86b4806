package sparse

import (
	"iter"
	"slices"

	"lightsieve/api"
	"lightsieve/lin"
	"lightsieve/mask"
)

// Carries reports whether columns are independent and make a reading with values of which none is 0.
func Carries(m api.Mask, y []int, pixels []int) (bool, api.Errno) {
	q, e := askOf(m, y, pixels)
	if e != api.OK {
		return false, e
	}
	_, is := q.fit(pixels, zero)
	return is, api.OK
}

// IsFit reports whether columns with their values are a fit of a reading.
func IsFit(m api.Mask, y []int, f api.Fit) bool {
	only, is := question{m, y}.fit(f.Pixels, zero)
	return is && slices.Equal(only.Values, f.Values)
}

// Fits returns all fits with at most k pixels, ordered by how many these are and then by these.
func Fits(m api.Mask, y []int, k int) ([]api.Fit, api.Errno) {
	q, e := askUpTo(m, y, k)
	if e != api.OK {
		return nil, e
	}
	return slices.Collect(q.fits(k, zero)), api.OK
}

// Whole returns as pictures the fits with at most k pixels that have whole values within MaxValue.
func Whole(m api.Mask, y []int, k int) ([][]int, api.Errno) {
	q, e := askUpTo(m, y, k)
	if e != api.OK {
		return nil, e
	}
	var pictures [][]int
	for f := range q.fits(k, butWhole(api.MaxValue)) {
		x := make([]int, len(m[0]))
		for i, j := range f.Pixels {
			x[j] = f.Values[i].N
		}
		pictures = append(pictures, x)
	}
	return pictures, api.OK
}

// Picture returns a fit as a picture of fractions.
func Picture(m api.Mask, f api.Fit) ([]api.Ratio, api.Errno) {
	if !mask.Valid(m) || !valid(f) {
		return nil, api.ErrInvalid
	}
	x := slices.Repeat([]api.Ratio{{N: 0, D: 1}}, len(m[0]))
	for i, j := range f.Pixels {
		if j < 0 || j >= len(x) {
			return nil, api.ErrName
		}
		x[j] = f.Values[i]
	}
	return x, api.OK
}

// fits yields those in which no value is wrong, in the order of Fits. More columns than the rank depend on each other.
func (q question) fits(k int, wrong func(api.Ratio) bool) iter.Seq[api.Fit] {
	return func(yield func(api.Fit) bool) {
		rank, _ := lin.Rank(q.m)
		for size := range min(k, rank) + 1 {
			for pixels := range sets(len(q.m[0]), size) {
				f, is := q.fit(pixels, wrong)
				if is && !yield(f) {
					return
				}
			}
		}
	}
}

// fit gives columns the only values that make the reading, if no one of them is wrong.
func (q question) fit(pixels []int, wrong func(api.Ratio) bool) (f api.Fit, is bool) {
	values, e := lin.Solve(q.m, pixels, q.y)
	if e != api.OK || slices.ContainsFunc(values, wrong) {
		return api.Fit{}, false
	}
	return api.Fit{Pixels: slices.Clone(pixels), Values: values}, true
}

// sets yields the sets of some of the numbers below n, in ascending order of their lists. The list is the same one each time.
func sets(n, size int) iter.Seq[[]int] {
	return func(yield func([]int) bool) {
		set := make([]int, size)
		for i := range set {
			set[i] = i
		}
		for yield(set) && advance(set, n) {
		}
	}
}

// advance turns a set into the next one of its size, if there is one: the last number that can grow does, and the others follow it closely.
func advance(set []int, n int) bool {
	i := len(set) - 1
	for i >= 0 && set[i] == n-len(set)+i {
		i--
	}
	if i < 0 {
		return false
	}
	from := set[i] + 1
	for k := i; k < len(set); k++ {
		set[k] = from + k - i
	}
	return true
}

func valid(f api.Fit) bool {
	if len(f.Pixels) != len(f.Values) {
		return false
	}
	for i, r := range f.Values {
		if zero(r) || !validFraction(r) || i > 0 && f.Pixels[i] <= f.Pixels[i-1] {
			return false
		}
	}
	return true
}

// validFraction leaves it to a mask that reads nothing: there every picture makes the reading 0, if only its fractions are valid.
func validFraction(r api.Ratio) bool {
	return lin.Makes(api.Mask{{0}}, []api.Ratio{r}, []int{0})
}

func zero(r api.Ratio) bool {
	return r.N == 0
}

// butWhole finds all values wrong but whole ones within a limit, without 0.
func butWhole(limit int) func(api.Ratio) bool {
	return func(r api.Ratio) bool {
		return zero(r) || r.D > 1 || r.N < -limit || r.N > limit
	}
}
