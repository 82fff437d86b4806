package cond

import (
	"slices"

	"lightsieve/api"
	"lightsieve/lin"
	"lightsieve/mask"
)

// Safe reports whether each picture that is 0 outside of some pixels is the only least one of its reading.
func Safe(m api.Mask, pixels []int) (bool, api.Errno) {
	c, e := askOf(m, pixels)
	return e == api.OK && c.safe(at(pixels)), e
}

// Order returns the greatest k so that all sets of k pixels are safe.
func Order(m api.Mask) (int, api.Errno) {
	c, e := hiddenBy(m)
	return c.order(), e
}

// SafePicture reports whether a shown picture is safe.
func SafePicture(m api.Mask, x []int) (bool, api.Errno) {
	_, e := Against(m, x)
	if e == api.ErrNone {
		return true, api.OK
	}
	return false, e
}

// Against returns the first circuit that shows that a shown picture is not safe.
func Against(m api.Mask, x []int) ([]int, api.Errno) {
	if _, e := mask.Read(m, x); e != api.OK {
		return nil, e
	}
	circuits, e := lin.Circuits(m)
	if e != api.OK {
		return nil, e
	}
	i := slices.IndexFunc(circuits, func(h []int) bool { return against(h, x) })
	if i < 0 {
		return nil, api.ErrNone
	}
	return circuits[i], api.OK
}

// Bad returns a picture with at most k pixels that is not safe: a circuit as it is where these have the greatest share, and 0 elsewhere.
func Bad(m api.Mask, k int) ([]int, api.Errno) {
	c, e := askUpTo(m, k, 1)
	if e != api.OK {
		return nil, e
	}
	if c.safe(most(k)) {
		return nil, api.ErrNone
	}
	h, _ := c.first(most(k))
	x := make([]int, len(h))
	for _, j := range fullest(h, k) {
		x[j] = h[j]
	}
	return x, api.OK
}

// IsBad reports whether a list is a shown picture with at most k pixels that is not safe, so that it has at least one.
func IsBad(m api.Mask, k int, x []int) bool {
	if _, e := Against(m, x); e != api.OK {
		return false
	}
	return lit(x) <= k && k <= len(x)
}

// Unsafe returns all sets of k pixels that are not safe, in ascending order.
func Unsafe(m api.Mask, k int) ([][]int, api.Errno) {
	c, e := askUpTo(m, k, 0)
	if e != api.OK {
		return nil, e
	}
	var all [][]int
	for pixels := range sets(c.pixels, k) {
		if !c.safe(at(pixels)) {
			all = append(all, slices.Clone(pixels))
		}
	}
	return all, api.OK
}

// Blind returns the pixels, ascending, that are in no safe set.
func Blind(m api.Mask) ([]int, api.Errno) {
	alone, e := Unsafe(m, 1)
	return slices.Concat(alone...), e
}

func (c hidden) safe(counted part) bool {
	belowHalf := share{N: 1, D: 2}.above
	return belowHalf(c.greatest(counted))
}

// order goes up by one pixel at a time, since more pixels have no lesser share.
func (c hidden) order() int {
	k := 0
	for k < c.pixels && c.safe(most(k+1)) {
		k++
	}
	return k
}

// against reports whether a step along a circuit, one way or the other, does not make the norm of a picture greater.
func against(h, x []int) bool {
	bright, dark := 0, 0
	for j, n := range h {
		switch {
		case x[j] > 0:
			bright += n
		case x[j] < 0:
			bright -= n
		default:
			dark += size(n)
		}
	}
	return size(bright) >= dark
}

// lit is how many pixels are not 0.
func lit(x []int) int {
	pixels := 0
	for _, n := range x {
		if n != 0 {
			pixels++
		}
	}
	return pixels
}
