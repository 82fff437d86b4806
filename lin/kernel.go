package lin

import (
	"slices"

	"lightsieve/api"
	"lightsieve/mask"
)

// Rank returns the greatest number of independent columns.
func Rank(m api.Mask) (int, api.Errno) {
	if !mask.Valid(m) {
		return 0, api.ErrInvalid
	}
	return reduceAll(m, nothing).rank(), api.OK
}

// Independent reports whether no kernel vector is 0 outside of some columns, which are named in ascending order.
func Independent(m api.Mask, pixels []int) (bool, api.Errno) {
	if !mask.Valid(m) {
		return false, api.ErrInvalid
	}
	if e := listed(m, pixels); e != api.OK {
		return false, e
	}
	return reduce(m, pixels, nothing).rank() == len(pixels), api.OK
}

// Solve returns the only values of some columns with which they make a reading.
func Solve(m api.Mask, pixels []int, y []int) ([]api.Ratio, api.Errno) {
	if e := read(m, y); e != api.OK {
		return nil, e
	}
	if e := listed(m, pixels); e != api.OK {
		return nil, e
	}
	r := reduce(m, pixels, oneOf(y))
	if !r.possible() {
		return nil, api.ErrNone
	}
	if r.rank() < len(pixels) {
		return nil, api.ErrMany
	}
	return r.solved(), api.OK
}

// Kernel returns for each free pixel the kernel vector that is above 0 there and 0 at the other free ones.
func Kernel(m api.Mask) ([][]int, api.Errno) {
	if !mask.Valid(m) {
		return nil, api.ErrInvalid
	}
	r := reduceAll(m, nothing)
	var basis [][]int
	for _, free := range r.free() {
		basis = append(basis, r.kernel(free))
	}
	return basis, api.OK
}

// IsKernel reports whether a mask reads a list of numbers, not all 0, as 0 in each row.
// Their limit is that of a shown picture, for which Read asks.
func IsKernel(m api.Mask, h []int) bool {
	y, e := mask.Read(m, h)
	return e == api.OK && slices.ContainsFunc(h, nonzero) && !slices.ContainsFunc(y, nonzero)
}

// Primitive reports whether numbers have no common divisor above 1, and the first one that is not 0 is above 0.
func Primitive(h []int) bool {
	return within(h, maxNumber) && divisor(h...) == 1 && h[slices.IndexFunc(h, nonzero)] > 0
}
