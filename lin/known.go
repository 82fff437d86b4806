package lin

import (
	"lightsieve/api"
	"lightsieve/mask"
)

// Known returns the pixels, ascending, that have the same value in all pictures with the same reading.
func Known(m api.Mask) ([]int, api.Errno) {
	if !mask.Valid(m) {
		return nil, api.ErrInvalid
	}
	r := reduceAll(m, nothing)
	var pixels []int
	for j := range m[0] {
		if r.known(j) >= 0 {
			pixels = append(pixels, j)
		}
	}
	return pixels, api.OK
}

// Weight returns how often each row is to be added so that the sum is 0 but for a pixel, and above 0 there.
func Weight(m api.Mask, pixel int) ([]int, api.Errno) {
	if !mask.Valid(m) {
		return nil, api.ErrInvalid
	}
	if !there(m, pixel) {
		return nil, api.ErrName
	}
	r := reduceAll(m, whichOf(m))
	row := r.known(pixel)
	if row < 0 {
		return nil, api.ErrNone
	}
	return shorten(r.behind(row)), api.OK
}

// Weighs reports whether a list is a weight of a pixel.
func Weighs(m api.Mask, pixel int, z []int) bool {
	sums, e := mask.Back(m, z)
	if e != api.OK || !within(z, maxNumber) || !there(m, pixel) {
		return false
	}
	for j, sum := range sums {
		if j == pixel && sum <= 0 || j != pixel && sum != 0 {
			return false
		}
	}
	return true
}

// Value returns the value of a known pixel by a reading.
func Value(m api.Mask, y []int, pixel int) (api.Ratio, api.Errno) {
	if e := read(m, y); e != api.OK {
		return api.Ratio{}, e
	}
	if !there(m, pixel) {
		return api.Ratio{}, api.ErrName
	}
	r := reduceAll(m, oneOf(y))
	row := r.known(pixel)
	if row < 0 {
		return api.Ratio{}, api.ErrNone
	}
	if !r.possible() {
		return api.Ratio{}, api.ErrState
	}
	return r.value(row), api.OK
}
