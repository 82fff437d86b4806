package sparse

import (
	"slices"

	"lightsieve/api"
	"lightsieve/lin"
	"lightsieve/mask"
)

// Sure returns how many pixels a picture may have that is the only sparsest fit of its reading, whichever pixels they are.
func Sure(m api.Mask) (int, api.Errno) {
	spark, e := lin.Spark(m)
	if e == api.ErrNone {
		return mask.Pixels(m)
	}
	if e != api.OK {
		return 0, e
	}
	return (spark - 1) / 2, api.OK
}

// Bound returns how many pixels a picture may have so that the coherence alone shows that Greedy finds it.
func Bound(m api.Mask) (int, api.Errno) {
	c, e := mask.Coherence(m)
	if e != api.OK {
		return 0, e
	}
	k := 0
	for k < len(m[0]) && (2*k+1)*(2*k+1)*c.N < c.D {
		k++
	}
	return k, api.OK
}

// Twins returns two pictures with one reading, with at most k pixels each: the parts of a circuit, of which one is turned.
// Other twins differ by a kernel vector, which has all pixels of some circuit, so that the smallest one is enough.
func Twins(m api.Mask, k int) (a, b []int, e api.Errno) {
	if !mask.Valid(m) {
		return nil, nil, api.ErrInvalid
	}
	if k < 1 || k > api.MaxPixels {
		return nil, nil, api.ErrRange
	}
	h, e := lin.Circuit(m)
	if e != api.OK {
		return nil, nil, e
	}
	if lit(h) > 2*k {
		return nil, nil, api.ErrNone
	}
	a, b = make([]int, len(h)), make([]int, len(h))
	for j, n := range h {
		if lit(h[:j]) < k {
			a[j] = n
		} else {
			b[j] = -n
		}
	}
	return a, b, api.OK
}

// IsTwins reports whether two lists are different pictures with one reading, with at most k pixels each.
func IsTwins(m api.Mask, k int, a, b []int) bool {
	if k < 1 || k > api.MaxPixels || lit(a) > k || lit(b) > k {
		return false
	}
	first, e := mask.Read(m, a)
	second, f := mask.Read(m, b)
	return e == api.OK && f == api.OK && slices.Equal(first, second) && !slices.Equal(a, b)
}

// lit is how many pixels are not 0.
func lit(x []int) int {
	pixels := 0
	for _, n := range x {
		if n != 0 {
			pixels++
		}
	}
	return pixels
}
