package sparse_test

import (
	"slices"
	"testing"

	"lightsieve/api"
	"lightsieve/sparse"
)

func TestSparsest(t *testing.T) {
	cross := api.Mask{{1, 0, 1, 1}, {0, 1, 1, -1}}
	for _, c := range []struct {
		m     api.Mask
		y     []int
		first api.Fit
		count int
	}{
		{two(), []int{1, 1}, fit([]int{1}, ratio(1, 1)), 1}, {two(), []int{1, 0}, fit([]int{0}, ratio(1, 1)), 1}, {two(), []int{1, -1}, fit([]int{0, 1}, wholes(2, -1)...), 3},
		{two(), []int{0, 0}, api.Fit{}, 1}, {full(6, 10, 0), filled(6, 0), api.Fit{}, 1}, {api.Mask{{0, 1}}, []int{7}, fit([]int{1}, ratio(7, 1)), 1},
		{api.Mask{{1, -1, 0, 1}}, []int{3}, fit([]int{0}, ratio(3, 1)), 3}, {twice(), []int{5, 5}, fit([]int{0}, ratio(5, 1)), 2}, {full(6, 10, -1), filled(6, top), fit([]int{0}, ratio(-top, 1)), 10},
		{cross, []int{2, 1}, fit([]int{0, 1}, wholes(2, 1)...), 6}, {cross, []int{3, -3}, fit([]int{3}, ratio(3, 1)), 1},
		{units(6), []int{1, 2, 3, 4, 5, 6}, fit(upTo(6), wholes(1, 2, 3, 4, 5, 6)...), 1},
		// The first of the fits is not whole.
		{api.Mask{{1, 1, 0}, {1, -1, 1}}, []int{1, 2}, fit([]int{0, 1}, ratio(3, 2), ratio(-1, 2)), 3},
	} {
		if f, e := sparse.Sparsest(c.m, c.y); e != api.OK || !equalFits(f, c.first) {
			t.Error("Sparsest", c.m, c.y, f, e)
		}
		if n, e := sparse.Size(c.m, c.y); e != api.OK || n != len(c.first.Pixels) {
			t.Error("Size", c.m, c.y, n, e)
		}
		if n, e := sparse.Count(c.m, c.y); e != api.OK || n != c.count {
			t.Error("Count", c.m, c.y, n, e)
		}
		f, e := sparse.Only(c.m, c.y)
		if c.count == 1 && (e != api.OK || !equalFits(f, c.first)) || c.count > 1 && (e != api.ErrMany || !none(f)) {
			t.Error("Only", c.m, c.y, f, e)
		}
	}
}

func TestSparsestOfImpossibleReadings(t *testing.T) {
	for _, c := range []struct {
		m api.Mask
		y []int
	}{
		{twice(), []int{1, 2}}, {twice(), []int{0, 1}}, {api.Mask{{0}}, []int{1}}, {api.Mask{{1}, {1}}, []int{1, -1}}, {full(6, 10, 0), filled(6, top)}, {api.Mask{{1, 0}, {0, 1}, {1, 1}}, []int{1, 1, 1}},
	} {
		checkNoSparsest(t, c.m, c.y, api.ErrState)
		checkNoPursuit(t, c.m, c.y, api.ErrState)
	}
}

// checkSparsest holds what is told to be sparsest against all fits there are.
func checkSparsest(t *testing.T, m api.Mask, y []int, all []api.Fit) {
	t.Helper()
	if len(all) == 0 {
		checkNoSparsest(t, m, y, api.ErrState)
		return
	}
	count := 0
	for _, f := range all {
		if len(f.Pixels) == len(all[0].Pixels) {
			count++
		}
	}
	f, e := sparse.Sparsest(m, y)
	size, g := sparse.Size(m, y)
	n, h := sparse.Count(m, y)
	if e != api.OK || g != api.OK || h != api.OK || !equalFits(f, all[0]) || size != len(all[0].Pixels) || n != count {
		t.Fatal("Sparsest", m, y, f, e, size, g, n, h, all)
	}
	only, e := sparse.Only(m, y)
	if count == 1 && (e != api.OK || !equalFits(only, all[0])) || count > 1 && (e != api.ErrMany || !none(only)) {
		t.Fatal("Only", m, y, only, e, all)
	}
}

// asFit is a picture as the fit that it is, if its columns are independent.
func asFit(x []int) api.Fit {
	f := api.Fit{Pixels: support(x)}
	for _, j := range f.Pixels {
		f.Values = append(f.Values, ratio(x[j], 1))
	}
	return f
}

// P4.3.
func TestOnlyOfPicturesThatAreSure(t *testing.T) {
	var s numbers
	for _, m := range masks() {
		sure, e := sparse.Sure(m)
		if e != api.OK {
			t.Fatal("Sure", m, e)
		}
		for range 6 {
			x := s.dots(len(m[0]), sure, top/10)
			if f, e := sparse.Only(m, readOf(m, x)); e != api.OK || !equalFits(f, asFit(x)) {
				t.Fatal("Only of a picture that is sure", m, x, f, e)
			}
		}
	}
}

// Sure by its own definition, with all pictures of small values.
func TestSureIsTheGreatest(t *testing.T) {
	for _, m := range smallMasks() {
		if len(m[0]) > 4 {
			continue
		}
		least := len(m[0]) + 1
		for _, x := range lists(len(m[0]), 2) {
			f, e := sparse.Only(m, readOf(m, x))
			if e != api.OK || !slices.Equal(f.Pixels, support(x)) {
				least = min(least, len(support(x)))
			}
		}
		if sure, e := sparse.Sure(m); sure != least-1 || e != api.OK {
			t.Fatal("Sure", m, sure, e, least)
		}
	}
}
