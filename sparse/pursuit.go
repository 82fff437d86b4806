package sparse

import (
	"cmp"
	"math/bits"
	"slices"

	"lightsieve/api"
	"lightsieve/lin"
	"lightsieve/mask"
)

// pursuit is a question with the columns that were chosen for it, but for those that depend on the ones before them.
type pursuit struct {
	question
	axes []axis
}

// axis is a chosen column, its part that is upright on the axes before it, and the product of both, which is above 0.
type axis struct {
	column, part []int
	product      int
}

// pull is a column's product with the rest, and the square of its length. Neither is 0.
type pull struct {
	pixel           int
	product, square uint64
}

// Rest returns a reading less its projection onto some columns.
func Rest(m api.Mask, y []int, pixels []int) ([]api.Ratio, api.Errno) {
	p, e := pursue(m, y, pixels)
	if e != api.OK {
		return nil, e
	}
	part, divisor := p.upright(y)
	rest := make([]api.Ratio, len(part))
	for i, n := range part {
		rest[i] = lowest(n, divisor)
	}
	return rest, api.OK
}

// Next returns the column that the pursuit chooses after some columns.
func Next(m api.Mask, y []int, pixels []int) (int, api.Errno) {
	p, e := pursue(m, y, pixels)
	if e != api.OK {
		return 0, e
	}
	return p.next()
}

// Pursuit returns the columns that the pursuit chooses, in their order.
func Pursuit(m api.Mask, y []int) ([]int, api.Errno) {
	p, e := pursue(m, y, nil)
	if e != api.OK {
		return nil, e
	}
	var chosen []int
	for {
		pixel, e := p.next()
		if e == api.ErrNone {
			return chosen, api.OK
		}
		if e != api.OK {
			return nil, e
		}
		p.choose(pixel)
		chosen = append(chosen, pixel)
	}
}

// Greedy returns the fit with which the pursuit ends. The chosen columns are independent, since one that depends on those before it has the product 0 with the rest.
func Greedy(m api.Mask, y []int) (api.Fit, api.Errno) {
	pixels, e := Pursuit(m, y)
	if e != api.OK {
		return api.Fit{}, e
	}
	slices.Sort(pixels)
	values, e := lin.Solve(m, pixels, y)
	if e != api.OK {
		return api.Fit{}, e
	}
	var f api.Fit
	for i, r := range values {
		if !zero(r) {
			f.Pixels, f.Values = append(f.Pixels, pixels[i]), append(f.Values, r)
		}
	}
	return f, api.OK
}

func pursue(m api.Mask, y, pixels []int) (pursuit, api.Errno) {
	q, e := askOf(m, y, pixels)
	if e != api.OK {
		return pursuit{}, e
	}
	p := pursuit{question: q}
	for _, j := range pixels {
		p.choose(j)
	}
	return p, api.OK
}

func (p *pursuit) choose(pixel int) {
	column, _ := mask.Column(p.m, pixel)
	part, _ := p.upright(column)
	if square := product(part, column); square > 0 {
		p.axes = append(p.axes, axis{column, part, square})
	}
}

// upright is the part of a vector that has the product 0 with all axes, as whole numbers that are to be divided by the divisor.
// The numbers are determinants, so that each former divisor divides them. The last divisor is at most 6^5, if there is a rest, and no number in between is beyond 10^16.
func (p *pursuit) upright(vector []int) (part []int, divisor int) {
	part, divisor = slices.Clone(vector), 1
	for _, a := range p.axes {
		times := product(part, a.column)
		for i, n := range part {
			part[i] = (a.product*n - times*a.part[i]) / divisor
		}
		divisor = a.product
	}
	return part, divisor
}

func (p *pursuit) next() (int, api.Errno) {
	rest, _ := p.upright(p.y)
	if !slices.ContainsFunc(rest, func(n int) bool { return n != 0 }) {
		return 0, api.ErrNone
	}
	strongest, is := best(p.pulls(rest), pull.compare)
	if !is {
		return 0, api.ErrState
	}
	return strongest.pixel, api.OK
}

// pulls leaves out the columns whose product is 0, which are never chosen. Those of zeros are among them.
func (p *pursuit) pulls(rest []int) []pull {
	var all []pull
	for j := range p.m[0] {
		column, _ := mask.Column(p.m, j)
		if n := product(column, rest); n != 0 {
			all = append(all, pull{j, uint64(max(n, -n)), uint64(product(column, column))})
		}
	}
	return all
}

// compare compares the squares of the products, each divided by the square of the length. A product is below 2^36, and a square is at most 6.
func (a pull) compare(b pull) int {
	aHigh, aLow := bits.Mul64(a.product, a.product*b.square)
	bHigh, bLow := bits.Mul64(b.product, b.product*a.square)
	return cmp.Or(cmp.Compare(aHigh, bHigh), cmp.Compare(aLow, bLow))
}

// best is the first one than which none is greater, if there is any.
func best[T any](all []T, compare func(a, b T) int) (greatest T, is bool) {
	for _, one := range all {
		if !is || compare(one, greatest) > 0 {
			greatest, is = one, true
		}
	}
	return greatest, is
}

func product(a, b []int) int {
	sum := 0
	for i, n := range a {
		sum += n * b[i]
	}
	return sum
}

// lowest takes a denominator above 0.
func lowest(n, d int) api.Ratio {
	a, b := max(n, -n), d
	for b != 0 {
		a, b = b, a%b
	}
	return api.Ratio{N: n / a, D: d / a}
}
