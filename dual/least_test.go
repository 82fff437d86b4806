package dual_test

import (
	"slices"
	"testing"

	"lightsieve/api"
	"lightsieve/dual"
	"lightsieve/lin"
	"lightsieve/sparse"
)

// leastCases have all corners of a reading, and the norm of these.
func leastCases() []struct {
	m       api.Mask
	y       []int
	norm    api.Ratio
	corners [][]api.Ratio
} {
	halves := []api.Ratio{ratio(1, 2), ratio(1, 2)}
	wide := api.Mask{{1, 1, 1, 0}, {0, 1, -1, 1}}
	return []struct {
		m       api.Mask
		y       []int
		norm    api.Ratio
		corners [][]api.Ratio
	}{
		{two(), []int{1, 1}, ratio(1, 1), [][]api.Ratio{wholes(0, 1, 0)}}, {two(), []int{1, -1}, ratio(2, 1), [][]api.Ratio{wholes(1, 0, -1)}}, {two(), []int{3, 2}, ratio(3, 1), [][]api.Ratio{wholes(1, 2, 0)}}, {two(), []int{-2, -3}, ratio(3, 1), [][]api.Ratio{wholes(0, -2, -1)}}, {two(), []int{0, 5}, ratio(5, 1), [][]api.Ratio{wholes(0, 0, 5)}},
		// The reading of zeros has the picture 0, also where pixels are not seen.
		{two(), []int{0, 0}, ratio(0, 1), [][]api.Ratio{wholes(0, 0, 0)}}, {api.Mask{{0}}, []int{0}, ratio(0, 1), [][]api.Ratio{wholes(0)}}, {full(6, 10, 0), filled(6, 0), ratio(0, 1), [][]api.Ratio{wholes(filled(10, 0)...)}}, {twice(), []int{0, 0}, ratio(0, 1), [][]api.Ratio{wholes(0, 0)}},
		// Several corners. They are ordered by their pixels, where one pixel alone comes after two that begin before it.
		{line(), []int{3}, ratio(3, 1), [][]api.Ratio{wholes(3, 0, 0, 0), wholes(0, -3, 0, 0), wholes(0, 0, 0, 3)}}, {twice(), []int{-5, -5}, ratio(5, 1), [][]api.Ratio{wholes(-5, 0), wholes(0, -5)}}, {api.Mask{{1, 1, 0, 1}, {0, 0, 1, 1}}, []int{1, 1}, ratio(1, 1), [][]api.Ratio{wholes(0, 0, 0, 1)}},
		{wide, []int{2, 0}, ratio(2, 1), [][]api.Ratio{wholes(2, 0, 0, 0), wholes(0, 1, 1, 0)}}, {wide, []int{0, 2}, ratio(2, 1), [][]api.Ratio{wholes(0, 1, -1, 0), wholes(0, 0, 0, 2)}}, {wide, []int{2, 1}, ratio(2, 1), [][]api.Ratio{wholes(1, 1, 0, 0), {ratio(0, 1), ratio(3, 2), ratio(1, 2), ratio(0, 1)}}},
		{api.Mask{{1, 0, 1, 1}, {0, 1, 1, -1}}, []int{2, 0}, ratio(2, 1), [][]api.Ratio{wholes(2, 0, 0, 0), wholes(0, 0, 1, 1)}}, {api.Mask{{1, 0, 1}, {1, 0, -1}, {0, 1, 0}}, []int{1, 0, 0}, ratio(1, 1), [][]api.Ratio{{ratio(1, 2), ratio(0, 1), ratio(1, 2)}}}, {api.Mask{{1, 1, 1}, {1, 0, -1}}, []int{2, 0}, ratio(2, 1), [][]api.Ratio{wholes(1, 0, 1), wholes(0, 2, 0)}},
		// Fractions.
		{half(), []int{1, 0}, ratio(1, 1), [][]api.Ratio{halves}}, {half(), []int{1, 2}, ratio(2, 1), [][]api.Ratio{{ratio(3, 2), ratio(-1, 2)}}}, {api.Mask{{1, 1, 0}, {1, 0, 1}, {0, 1, 1}}, []int{1, 1, 1}, ratio(3, 2), [][]api.Ratio{filledRatios(3, ratio(1, 2))}},
		{units(6), []int{1, -2, 3, -4, 5, -6}, ratio(21, 1), [][]api.Ratio{wholes(1, -2, 3, -4, 5, -6)}}, {units(6), filled(6, -top), ratio(6*top, 1), [][]api.Ratio{wholes(filled(6, -top)...)}},
	}
}

func TestCorners(t *testing.T) {
	for _, c := range leastCases() {
		if l, e := dual.Corners(c.m, c.y); e != api.OK || !equalPictures(l, c.corners) {
			t.Error("Corners", c.m, c.y, l, e)
		}
		if r, e := dual.Value(c.m, c.y); e != api.OK || r != c.norm {
			t.Error("Value", c.m, c.y, r, e)
		}
		checkLeast(t, c.m, c.y, c.norm)
		checkUnique(t, c.m, c.y, c.corners)
		for j := range c.m[0] {
			checkRange(t, c.m, c.y, j, c.corners)
		}
		for _, x := range c.corners {
			if is, e := dual.IsLeast(c.m, c.y, x); !is || e != api.OK {
				t.Error("IsLeast", c.m, c.y, x, is, e)
			}
		}
	}
}

func TestLeastOfImpossibleReadings(t *testing.T) {
	for _, c := range impossible() {
		checkNoLeast(t, c.m, c.y, api.ErrState)
		for j := range c.m[0] {
			if lo, hi, e := dual.Range(c.m, c.y, j); lo != ratio(0, 0) || hi != ratio(0, 0) || e != api.ErrState {
				t.Error("Range", c.m, c.y, j, lo, hi, e)
			}
		}
		for _, x := range [][]api.Ratio{filledRatios(len(c.m[0]), ratio(0, 1)), filledRatios(len(c.m[0]), ratio(10000000000, 1)), filledRatios(len(c.m[0]), ratio(1, 2))} {
			if is, e := dual.IsLeast(c.m, c.y, x); is || e != api.ErrState {
				t.Error("IsLeast", c.m, c.y, x, is, e)
			}
			if dual.Proves(c.m, c.y, api.Least{Picture: x, Proof: filledRatios(len(c.m), ratio(0, 1))}) {
				t.Error("Proves", c.m, c.y, x)
			}
		}
	}
}

type impossibleCase struct {
	m api.Mask
	y []int
}

func impossible() []impossibleCase {
	return []impossibleCase{
		{twice(), []int{1, 2}}, {twice(), []int{0, 1}}, {twice(), []int{1, 0}}, {twice(), []int{-top, top}}, {api.Mask{{0}}, []int{1}}, {api.Mask{{0}}, []int{-1}}, {api.Mask{{1}, {1}}, []int{1, -1}}, {full(6, 10, 0), filled(6, top)}, {full(6, 10, 1), []int{1, 1, 1, 1, 1, 2}},
		{api.Mask{{1, 0}, {0, 1}, {1, 1}}, []int{1, 1, 1}}, {api.Mask{{1, 0}, {0, 1}, {1, 1}}, []int{1, 1, 3}}, {api.Mask{{1, 0}, {0, 0}}, []int{5, -1}}, {api.Mask{{1, 0}, {0, 0}}, []int{0, 1}},
	}
}

// checkLeast asks for a picture with its proof, and for its norm.
func checkLeast(t *testing.T, m api.Mask, y []int, norm api.Ratio) {
	t.Helper()
	l, e := dual.Least(m, y)
	if e != api.OK || !proves(m, y, l) || normOf(l.Picture).Cmp(bigRatio(norm)) != 0 {
		t.Fatal("Least", m, y, l, e, norm)
	}
	if is, e := dual.IsLeast(m, y, l.Picture); !is || e != api.OK || !dual.Proves(m, y, l) {
		t.Fatal("IsLeast and Proves", m, y, l, is, e)
	}
	if !slices.ContainsFunc(y, func(n int) bool { return n != 0 }) {
		if !slices.Equal(l.Picture, filledRatios(len(m[0]), ratio(0, 1))) || !slices.Equal(l.Proof, filledRatios(len(m), ratio(0, 1))) {
			t.Fatal("Least of zeros", m, l)
		}
	}
}

func checkUnique(t *testing.T, m api.Mask, y []int, corners [][]api.Ratio) {
	t.Helper()
	if is, e := dual.Unique(m, y); is != (len(corners) == 1) || e != api.OK {
		t.Fatal("Unique", m, y, is, e)
	}
	var fixed []int
	for j := range m[0] {
		if !slices.ContainsFunc(corners, func(x []api.Ratio) bool { return x[j] != corners[0][j] }) {
			fixed = append(fixed, j)
		}
	}
	if l, e := dual.Fixed(m, y); !slices.Equal(l, fixed) || e != api.OK {
		t.Fatal("Fixed", m, y, l, e, fixed)
	}
}

func checkRange(t *testing.T, m api.Mask, y []int, pixel int, corners [][]api.Ratio) {
	t.Helper()
	least, greatest := bigRatio(corners[0][pixel]), bigRatio(corners[0][pixel])
	for _, x := range corners {
		if r := bigRatio(x[pixel]); r.Cmp(least) < 0 {
			least = r
		} else if r.Cmp(greatest) > 0 {
			greatest = r
		}
	}
	lo, hi, e := dual.Range(m, y, pixel)
	if e != api.OK || !isValid(lo, hi) || bigRatio(lo).Cmp(least) != 0 || bigRatio(hi).Cmp(greatest) != 0 {
		t.Fatal("Range", m, y, pixel, lo, hi, e)
	}
}

// P5.2 and P5.3: the proof proves that no picture has a lesser norm, and the corners are all fits that have it.
func TestLeastOfAnyReading(t *testing.T) {
	var s numbers
	several := 0
	for _, m := range masks() {
		for _, y := range readings(&s, m) {
			if s.below(3) > 0 {
				continue
			}
			if possible, _ := lin.Possible(m, y); !possible {
				checkNoLeast(t, m, y, api.ErrState)
				continue
			}
			corners, e := dual.Corners(m, y)
			if e != api.OK || len(corners) == 0 {
				t.Fatal("Corners", m, y, corners, e)
			}
			value, e := dual.Value(m, y)
			if e != api.OK || !isValid(value) {
				t.Fatal("Value", m, y, value, e)
			}
			checkLeast(t, m, y, value)
			checkCorners(t, m, y, value, corners)
			checkFits(t, &s, m, y, value, corners)
			checkUnique(t, m, y, corners)
			checkRange(t, m, y, s.below(len(m[0])), corners)
			checkMixture(t, &s, m, y, corners)
			if len(corners) > 1 {
				several++
			}
		}
	}
	if several < 1000 {
		t.Error("too few readings with several corners:", several)
	}
}

// pixelsOf are those that are not 0.
func pixelsOf(x []api.Ratio) []int {
	l := []int{}
	for j, r := range x {
		if r.N != 0 {
			l = append(l, j)
		}
	}
	return l
}

func checkCorners(t *testing.T, m api.Mask, y []int, value api.Ratio, corners [][]api.Ratio) {
	t.Helper()
	for i, x := range corners {
		if i > 0 && slices.Compare(pixelsOf(corners[i-1]), pixelsOf(x)) >= 0 {
			t.Fatal("Corners are not in order", m, y, corners)
		}
		independent, _ := lin.Independent(m, pixelsOf(x))
		if !independent || !makes(m, x, y) || normOf(x).Cmp(bigRatio(value)) != 0 {
			t.Fatal("no corner", m, y, x, value)
		}
		if is, e := dual.IsLeast(m, y, x); !is || e != api.OK {
			t.Fatal("IsLeast", m, y, x, is, e)
		}
	}
}

// checkFits asks whether all fits with the least norm are told. Of many fits only some are asked whether they are least.
func checkFits(t *testing.T, s *numbers, m api.Mask, y []int, value api.Ratio, corners [][]api.Ratio) {
	t.Helper()
	fits, _ := sparse.Fits(m, y, api.MaxPixels)
	for _, f := range fits {
		order := normOf(f.Values).Cmp(bigRatio(value))
		x, _ := sparse.Picture(m, f)
		told := slices.ContainsFunc(corners, func(corner []api.Ratio) bool { return slices.Equal(corner, x) })
		if order < 0 || told != (order == 0) {
			t.Fatal("a fit that is a corner or not", m, y, f, value, told)
		}
		if s.below(len(fits)) >= 4 {
			continue
		}
		if is, e := dual.IsLeast(m, y, x); is != told || e != api.OK {
			t.Fatal("IsLeast of a fit", m, y, f, value, is, e)
		}
	}
}

// checkMixture mixes corners: what comes of it is least, is proved by the proof of another one, and is within the ends of each pixel.
func checkMixture(t *testing.T, s *numbers, m api.Mask, y []int, corners [][]api.Ratio) {
	t.Helper()
	x := corners[s.below(len(corners))]
	for range 2 {
		mixed, e := dual.Mixed(x, corners[s.below(len(corners))])
		if e != api.OK {
			return
		}
		x = mixed
	}
	if is, e := dual.IsLeast(m, y, x); !is || e != api.OK {
		t.Fatal("a mixture that is not least", m, y, x, is, e)
	}
	l, _ := dual.Least(m, y)
	if !dual.Proves(m, y, api.Least{Picture: x, Proof: l.Proof}) {
		t.Fatal("a proof that does not prove a mixture", m, y, x, l)
	}
	j := s.below(len(x))
	lo, hi, e := dual.Range(m, y, j)
	if e != api.OK || lin.Compare(lo, x[j]) > 0 || lin.Compare(hi, x[j]) < 0 {
		t.Fatal("a mixture that is out of the range", m, y, x, j, lo, hi, e)
	}
}

// The least norms and the ends of ranges by another way: a linear program, in which no fit is looked for.
func TestLeastByLinearPrograms(t *testing.T) {
	var s numbers
	for _, m := range masks() {
		for _, y := range readings(&s, m) {
			if s.below(6) > 0 {
				continue
			}
			norm, e := leastNorm(m, y)
			value, f := dual.Value(m, y)
			if e != f || e == api.OK && bigRatio(value).Cmp(norm) != 0 {
				t.Fatal("Value", m, y, value, f, norm, e)
			}
			if e != api.OK {
				continue
			}
			pixel := s.below(len(m[0]))
			least, greatest := greatestWithNorm(m, y, norm, pixel, -1), greatestWithNorm(m, y, norm, pixel, 1)
			lo, hi, e := dual.Range(m, y, pixel)
			if e != api.OK || bigRatio(lo).Cmp(least) != 0 || bigRatio(hi).Cmp(greatest) != 0 {
				t.Fatal("Range", m, y, pixel, lo, hi, e, least, greatest)
			}
		}
	}
}

func TestIsLeast(t *testing.T) {
	for _, c := range []struct {
		m    api.Mask
		y    []int
		x    []api.Ratio
		want bool
	}{
		{two(), []int{1, 1}, wholes(0, 1, 0), true}, {two(), []int{1, 1}, wholes(1, 0, 1), false}, {two(), []int{1, 1}, filledRatios(3, ratio(1, 2)), false}, {two(), []int{1, 1}, wholes(0, 1, 1), false}, {two(), []int{1, 1}, wholes(0, 0, 0), false}, {two(), []int{1, -1}, wholes(0, 1, 0), false}, {two(), []int{0, 0}, wholes(0, 0, 0), true}, {two(), []int{0, 0}, wholes(1, -1, 1), false},
		// The norm alone is not enough, in the first row and in the last.
		{two(), []int{1, -1}, wholes(1, 0, 1), false}, {two(), []int{1, -1}, wholes(-1, 0, -1), false}, {two(), []int{1, -1}, wholes(0, 2, 0), false}, {half(), []int{1, 0}, wholes(1, 0), false},
		// A mixture is least, and has columns that depend on each other.
		{line(), []int{3}, []api.Ratio{ratio(1, 1), ratio(-1, 1), ratio(0, 1), ratio(1, 1)}, true}, {line(), []int{3}, []api.Ratio{ratio(3, 2), ratio(-5, 4), ratio(0, 1), ratio(1, 4)}, true}, {line(), []int{3}, []api.Ratio{ratio(2, 1), ratio(1, 1), ratio(0, 1), ratio(2, 1)}, false}, {line(), []int{3}, []api.Ratio{ratio(3, 2), ratio(-5, 4), ratio(1, 400), ratio(1, 4)}, false},
		// The sum of the sizes is no valid fraction, or only it is great.
		{api.Mask{{1, -1}}, []int{0}, wholes(10000000000, 10000000000), false}, {api.Mask{{1, -1, 0}}, []int{0}, wholes(0, 0, 10000000000), false}, {api.Mask{{1, 0, 0}}, []int{1}, []api.Ratio{ratio(1, 1), ratio(1, 399), ratio(1, 397)}, false}, {twice(), []int{1, 1}, []api.Ratio{ratio(1, 399), ratio(398, 399)}, true}, {full(1, 4, 1), []int{1}, []api.Ratio{ratio(1, 397), ratio(196, 397), ratio(1, 400), ratio(199, 400)}, false}, {full(1, 4, 1), []int{2}, []api.Ratio{ratio(1, 397), ratio(396, 397), ratio(1, 400), ratio(399, 400)}, true},
	} {
		if is, e := dual.IsLeast(c.m, c.y, c.x); is != c.want || e != api.OK {
			t.Error("IsLeast", c.m, c.y, c.x, is, e)
		}
	}
}

func TestErrorsOfIsLeast(t *testing.T) {
	for _, wrong := range wrongRatios() {
		for _, x := range [][]api.Ratio{{wrong}, {ratio(0, 1), wrong, ratio(0, 1)}, {ratio(0, 1), ratio(1, 1), wrong}, {wrong, wrong, wrong, wrong}} {
			for _, y := range [][]int{{1, 1}, {1}, nil, {top + 1, 0}} {
				if is, e := dual.IsLeast(two(), y, x); is || e != api.ErrInvalid {
					t.Error("IsLeast", y, x, is, e)
				}
			}
		}
		if is, e := dual.IsLeast(twice(), []int{1, 2}, []api.Ratio{ratio(0, 1), wrong}); is || e != api.ErrInvalid {
			t.Error("IsLeast of an impossible reading", wrong, is, e)
		}
	}
	for _, x := range [][]api.Ratio{nil, {}, wholes(0, 1), wholes(0, 1, 0, 0), filledRatios(11, ratio(0, 1)), filledRatios(300, ratio(1, 2))} {
		for _, y := range [][]int{{1, 1}, {1}, nil, {top + 1, 0}} {
			if is, e := dual.IsLeast(two(), y, x); is || e != api.ErrSize {
				t.Error("IsLeast", y, x, is, e)
			}
		}
		if is, e := dual.IsLeast(api.Mask{{1}, {1}}, []int{1, 2}, x); is || e != api.ErrSize {
			t.Error("IsLeast of an impossible reading", x, is, e)
		}
	}
}

// P5.6.
func TestNormsOfChangedReadings(t *testing.T) {
	var s numbers
	sums := 0
	for _, m := range masks() {
		if len(m)*len(m[0]) < 4 || len(m[0]) > 7 {
			continue
		}
		a, b := readOf(m, s.dots(len(m[0]), 3, 9)), readOf(m, s.dots(len(m[0]), 3, 9))
		sum := slices.Clone(a)
		for i := range sum {
			sum[i] += b[i]
		}
		first, second, both := valueOf(t, m, a), valueOf(t, m, b), valueOf(t, m, sum)
		least := bigWhole(0).Add(bigRatio(first), bigRatio(second))
		if bigRatio(both).Cmp(least) > 0 {
			t.Fatal("the norm of a sum is above the sum", m, a, b)
		}
		if bigRatio(both).Cmp(least) < 0 {
			sums++
		}
		for _, k := range []int{-1, 0, 2, 7, -1000} {
			if r := valueOf(t, m, times(k, a)); bigRatio(r).Cmp(bigWhole(0).Mul(bigRatio(first), bigWhole(max(k, -k)))) != 0 {
				t.Fatal("the norm of a multiple", m, a, k, r, first)
			}
		}
	}
	if sums < 100 {
		t.Error("too few sums with a lesser norm:", sums)
	}
}

func valueOf(t *testing.T, m api.Mask, y []int) api.Ratio {
	t.Helper()
	r, e := dual.Value(m, y)
	if e != api.OK {
		t.Fatal("Value", m, y, r, e)
	}
	return r
}
