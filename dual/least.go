package dual

import (
	"slices"

	"lightsieve/api"
	"lightsieve/lin"
	"lightsieve/mask"
	"lightsieve/sparse"
)

// least is a question with the least norm of its reading and the fits that have it, which are the corners.
type least struct {
	question
	norm    api.Ratio
	corners []api.Fit
}

// Value returns the least norm of a reading.
func Value(m api.Mask, y []int) (api.Ratio, api.Errno) {
	l, e := leastOf(m, y)
	return l.norm, e
}

// Least returns the first corner of a reading, and a proof of it.
func Least(m api.Mask, y []int) (api.Least, api.Errno) {
	l, e := leastOf(m, y)
	if e != api.OK {
		return api.Least{}, e
	}
	x, e := sparse.Picture(m, l.corners[0])
	return api.Least{Picture: x, Proof: l.proof()}, e
}

// IsLeast reports whether a picture of fractions makes a reading with the least norm.
func IsLeast(m api.Mask, y []int, x []api.Ratio) (bool, api.Errno) {
	if !mask.Valid(m) || !valid(x...) {
		return false, api.ErrInvalid
	}
	if len(x) != len(m[0]) {
		return false, api.ErrSize
	}
	l, e := leastOf(m, y)
	if e != api.OK {
		return false, e
	}
	norm, is := normOf(x)
	return is && norm == l.norm && lin.Makes(m, x, y), api.OK
}

// Corners returns the least pictures that are fits, ordered by their pixels.
func Corners(m api.Mask, y []int) ([][]api.Ratio, api.Errno) {
	l, e := leastOf(m, y)
	if e != api.OK {
		return nil, e
	}
	return l.pictures(), api.OK
}

// Unique reports whether there is just one least picture.
func Unique(m api.Mask, y []int) (bool, api.Errno) {
	l, e := leastOf(m, y)
	return len(l.corners) == 1, e
}

// Range returns the least and the greatest value of a pixel in least pictures.
func Range(m api.Mask, y []int, pixel int) (lo, hi api.Ratio, e api.Errno) {
	if _, e := askOf(m, y, pixel); e != api.OK {
		return api.Ratio{}, api.Ratio{}, e
	}
	l, e := leastOf(m, y)
	if e != api.OK {
		return api.Ratio{}, api.Ratio{}, e
	}
	lo, hi = l.ends(pixel)
	return lo, hi, api.OK
}

// Fixed returns the pixels, ascending, that have the same value in all least pictures.
func Fixed(m api.Mask, y []int) ([]int, api.Errno) {
	l, e := leastOf(m, y)
	if e != api.OK {
		return nil, e
	}
	var pixels []int
	for j := range m[0] {
		if lo, hi := l.ends(j); lo == hi {
			pixels = append(pixels, j)
		}
	}
	return pixels, api.OK
}

// leastOf looks among all fits, since some least picture is one. A reading without any is impossible.
func leastOf(m api.Mask, y []int) (least, api.Errno) {
	q, e := ask(m, y)
	if e != api.OK {
		return least{}, e
	}
	l := least{question: q}
	fits, _ := sparse.Fits(m, y, api.MaxPixels)
	for _, f := range fits {
		l.consider(f)
	}
	if len(l.corners) == 0 {
		return least{}, api.ErrState
	}
	slices.SortFunc(l.corners, func(a, b api.Fit) int { return slices.Compare(a.Pixels, b.Pixels) })
	return l, api.OK
}

func (l *least) consider(f api.Fit) {
	norm, _ := normOf(f.Values)
	order := lin.Compare(norm, l.norm)
	if len(l.corners) == 0 || order < 0 {
		l.norm, l.corners, order = norm, nil, 0
	}
	if order == 0 {
		l.corners = append(l.corners, f)
	}
}

func (l least) pictures() [][]api.Ratio {
	var all [][]api.Ratio
	for _, f := range l.corners {
		x, _ := sparse.Picture(l.m, f)
		all = append(all, x)
	}
	return all
}

func (l least) ends(pixel int) (lo, hi api.Ratio) {
	var values []api.Ratio
	for _, x := range l.pictures() {
		values = append(values, x[pixel])
	}
	return slices.MinFunc(values, lin.Compare), slices.MaxFunc(values, lin.Compare)
}
