package pic

import (
	"iter"
	"slices"

	"lightsieve/api"
)

const (
	// No Walsh transform of a list has a greater number: all of the longest list are MaxValue.
	maxWalsh = api.MaxList * api.MaxValue
	// No lifted list has a greater number: a difference of MaxValue and its opposite.
	maxLifted = 2 * api.MaxValue
)

// Walsh returns the Walsh transform of a power; its numbers may be beyond MaxValue.
func Walsh(l []int) ([]int, api.Errno) {
	if !Power(l) {
		return nil, api.ErrInvalid
	}
	return transformed(l), api.OK
}

// Unwalsh returns the list whose Walsh transform a list is.
func Unwalsh(w []int) ([]int, api.Errno) {
	if !powerLong(w) || !within(w, maxWalsh) {
		return nil, api.ErrInvalid
	}
	// The transform is its own opposite, but for the factor of the length.
	l := transformed(w)
	for i, n := range l {
		if n%len(l) != 0 {
			return nil, api.ErrNone
		}
		l[i] = n / len(l)
	}
	if !within(l, api.MaxValue) {
		return nil, api.ErrLimit
	}
	return l, api.OK
}

// Lift returns the lifted list of a power; its differences may be beyond MaxValue.
func Lift(l []int) ([]int, api.Errno) {
	if !Power(l) {
		return nil, api.ErrInvalid
	}
	lifted := slices.Clone(l)
	for n := len(lifted); n > 1; n /= 2 {
		split(lifted[:n:n])
	}
	return lifted, api.OK
}

// Unlift returns the list that is lifted to this one.
func Unlift(l []int) ([]int, api.Errno) {
	if !powerLong(l) || !within(l, maxLifted) {
		return nil, api.ErrInvalid
	}
	list := slices.Clone(l)
	for n := 2; n <= len(list); n *= 2 {
		join(list[:n:n])
	}
	if !within(list, api.MaxValue) {
		return nil, api.ErrLimit
	}
	return list, api.OK
}

// transformed adds and subtracts pairs of which one index has one more bit, bit by bit:
// with each bit the sign turns where both indexes of the sum have it.
func transformed(l []int) []int {
	w := slices.Clone(l)
	for bit := 1; bit < len(w); bit *= 2 {
		for i, j := range pairs(len(w), bit) {
			w[i], w[j] = w[i]+w[j], w[i]-w[j]
		}
	}
	return w
}

// split replaces neighbours by their halved sums, ahead, and their differences, behind.
func split(l []int) {
	old := slices.Clone(l)
	sums, differences := halves(l)
	for i, j := range pairs(len(old), 1) {
		a, b := old[i], old[j]
		sums[i/2] = halfDown(a + b)
		differences[i/2] = a - b
	}
}

// join undoes split. The bit that halving drops from a sum is the difference's last one, so that nothing is lost.
func join(l []int) {
	old := slices.Clone(l)
	sums, differences := halves(old)
	for i, j := range pairs(len(l), 1) {
		s, d := sums[i/2], differences[i/2]
		l[j] = s - halfDown(d)
		l[i] = l[j] + d
	}
}

// halves ends the capacity of each half where it ends, so that neither can grow into what lies behind it.
func halves(l []int) (first, second []int) {
	n := len(l) / 2
	return l[:n:n], l[n:len(l):len(l)]
}

// pairs yields the indexes below n, a power of two, that differ in just one bit, the one without it first.
func pairs(n, bit int) iter.Seq2[int, int] {
	return func(yield func(int, int) bool) {
		for i := range n {
			if i&bit == 0 && !yield(i, i|bit) {
				return
			}
		}
	}
}

// A shift rounds down also below 0, where a division does not.
func halfDown(n int) int {
	return n >> 1
}
