package dual

import (
	"slices"

	"lightsieve/api"
	"lightsieve/lin"
	"lightsieve/mask"
)

// Proves reports whether a picture makes a reading, and its proof shows that no lesser one does.
func Proves(m api.Mask, y []int, l api.Least) bool {
	if !lin.Makes(m, l.Picture, y) || len(l.Proof) != len(m) || !valid(l.Proof...) {
		return false
	}
	norm, is := normOf(l.Picture)
	return is && question{m, y}.proves(l.Proof, norm)
}

// proves takes a norm that is valid: that of a picture that has a proof is the least, and so it is one.
func (q question) proves(z []api.Ratio, norm api.Ratio) bool {
	for j := range q.m[0] {
		column, _ := mask.Column(q.m, j)
		seen := total(scaled(z, column)...)
		if seen.compare(api.Ratio{N: -1, D: 1}) < 0 || seen.compare(api.Ratio{N: 1, D: 1}) > 0 {
			return false
		}
	}
	return total(scaled(z, q.y)...).compare(norm) == 0
}

// scaled does not bring the fractions to their lowest terms.
func scaled(z []api.Ratio, by []int) []api.Ratio {
	l := make([]api.Ratio, len(z))
	for i, r := range z {
		l[i] = api.Ratio{N: r.N * by[i], D: r.D}
	}
	return l
}

// proof tries what a proof of the first corner sees at its columns and at further ones. At its own columns it must see the signs of their values.
// As proofs at a corner of all proofs see 1 or -1 at as many independent columns as the rank, the search does not fail.
func (l least) proof() []api.Ratio {
	rank, _ := lin.Rank(l.m)
	var try func(pixels, signs []int, from int) (z []api.Ratio, is bool)
	try = func(pixels, signs []int, from int) (z []api.Ratio, is bool) {
		z, independent := l.seeing(pixels, signs)
		if !independent {
			return nil, false
		}
		if l.proves(z, l.norm) {
			return z, true
		}
		for j := from; j < len(l.m[0]) && len(pixels) < rank; j++ {
			for _, sign := range []int{1, -1} {
				z, is := try(append(slices.Clip(pixels), j), append(slices.Clip(signs), sign), j+1)
				if is {
					return z, true
				}
			}
		}
		return nil, false
	}
	z, _ := try(l.corners[0].Pixels, signsOf(l.corners[0].Values), 0)
	return z
}

// seeing is a list that sees given numbers at columns, if these are independent. The reading of zeros has no columns.
func (l least) seeing(pixels, numbers []int) (z []api.Ratio, is bool) {
	if len(pixels) == 0 {
		return slices.Repeat([]api.Ratio{{N: 0, D: 1}}, len(l.m)), true
	}
	lines := columns(l.m, pixels...)
	if rank, _ := lin.Rank(lines); rank < len(pixels) {
		return nil, false
	}
	z, e := lin.Any(lines, numbers)
	return z, e == api.OK
}

func signsOf(values []api.Ratio) []int {
	var signs []int
	for _, r := range values {
		if r.N < 0 {
			signs = append(signs, -1)
		} else {
			signs = append(signs, 1)
		}
	}
	return signs
}
