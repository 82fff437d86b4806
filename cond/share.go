package cond

import (
	"iter"
	"slices"

	"lightsieve/api"
	"lightsieve/lin"
)

// No number of a kernel vector is greater.
const maxNumber = 1000000

// share is how much of a kernel vector lies at some pixels.
type share api.Ratio

func (s share) above(t share) bool {
	return lin.Compare(api.Ratio(s), api.Ratio(t)) > 0
}

// part adds up the sizes of a kernel vector at some pixels.
type part func(h []int) int

// Share returns how much of a list of numbers, not all 0, lies at some pixels.
func Share(h []int, pixels []int) (api.Ratio, api.Errno) {
	if !vector(h) {
		return api.Ratio{}, api.ErrInvalid
	}
	if e := listed(pixels, len(h)); e != api.OK {
		return api.Ratio{}, e
	}
	return api.Ratio(shareIn(h, at(pixels))), api.OK
}

// Of returns the greatest share of some pixels in a kernel vector.
func Of(m api.Mask, pixels []int) (api.Ratio, api.Errno) {
	c, e := askOf(m, pixels)
	if e != api.OK {
		return api.Ratio{}, e
	}
	return api.Ratio(c.greatest(at(pixels))), api.OK
}

// Greatest returns the greatest share of any k pixels in a kernel vector.
func Greatest(m api.Mask, k int) (api.Ratio, api.Errno) {
	c, e := askUpTo(m, k, 0)
	if e != api.OK {
		return api.Ratio{}, e
	}
	return api.Ratio(c.greatest(most(k))), api.OK
}

// Where returns the first circuit in which k pixels have the greatest share, and the first such pixels.
func Where(m api.Mask, k int) (circuit, pixels []int, e api.Errno) {
	c, e := askUpTo(m, k, 0)
	if e != api.OK {
		return nil, nil, e
	}
	if len(c.circuits) == 0 {
		return nil, nil, api.ErrNone
	}
	circuit, _ = c.first(most(k))
	return circuit, fullest(circuit, k), api.OK
}

// vector is asked of any list.
func vector(h []int) bool {
	if len(h) > api.MaxPixels {
		return false
	}
	lit := false
	for _, n := range h {
		if n < -maxNumber || n > maxNumber {
			return false
		}
		lit = lit || n != 0
	}
	return lit
}

func at(pixels []int) part {
	return func(h []int) int {
		sum := 0
		for _, j := range pixels {
			sum += size(h[j])
		}
		return sum
	}
}

// most is for the k pixels at which there is most.
func most(k int) part {
	return func(h []int) int {
		sizes := make([]int, len(h))
		for j, n := range h {
			sizes[j] = size(n)
		}
		slices.Sort(sizes)
		sum := 0
		for _, n := range sizes[len(sizes)-k:] {
			sum += n
		}
		return sum
	}
}

// fullest returns the first k pixels at which there is most of a kernel vector.
func fullest(h []int, k int) []int {
	greatest := most(k)(h)
	for pixels := range sets(len(h), k) {
		if at(pixels)(h) == greatest {
			return pixels
		}
	}
	return nil
}

func shareIn(h []int, counted part) share {
	n, d := counted(h), most(len(h))(h)
	common := divisor(n, d)
	return share{N: n / common, D: d / common}
}

// shares yields the circuits with their shares.
func (c hidden) shares(counted part) iter.Seq2[[]int, share] {
	return func(yield func([]int, share) bool) {
		for _, h := range c.circuits {
			if !yield(h, shareIn(h, counted)) {
				return
			}
		}
	}
}

// first returns the first circuit with the greatest share, and this share: 0 if there are no circuits.
func (c hidden) first(counted part) ([]int, share) {
	tell, kept := keeper()
	for h, s := range c.shares(counted) {
		tell(h, s)
	}
	return kept()
}

func (c hidden) greatest(counted part) share {
	_, s := c.first(counted)
	return s
}

// keeper returns two functions: one is told circuits with their shares, the other tells the first one with the greatest share.
func keeper() (tell func(h []int, s share), kept func() ([]int, share)) {
	var circuit []int
	greatest := share{N: 0, D: 1}
	tell = func(h []int, s share) {
		if circuit == nil || s.above(greatest) {
			circuit, greatest = h, s
		}
	}
	kept = func() ([]int, share) { return circuit, greatest }
	return tell, kept
}

// sets yields the sets of k of the numbers below n, in ascending order of their lists. The list is the same one each time.
func sets(n, k int) iter.Seq[[]int] {
	return func(yield func([]int) bool) {
		set := make([]int, k)
		var choose func(i, from int) bool
		choose = func(i, from int) bool {
			if i == k {
				return yield(set)
			}
			for j := from; j <= n-k+i; j++ {
				set[i] = j
				if !choose(i+1, j+1) {
					return false
				}
			}
			return true
		}
		choose(0, 0)
	}
}

func size(n int) int {
	return max(n, -n)
}

// divisor is the greatest common one of numbers that are not below 0, and not both 0.
func divisor(a, b int) int {
	for b != 0 {
		a, b = b, a%b
	}
	return a
}
