package sparse_test

import (
	"math"
	"slices"
	"testing"

	"lightsieve/api"
	"lightsieve/sparse"
)

func TestCarries(t *testing.T) {
	for _, c := range []struct {
		m         api.Mask
		y, pixels []int
		want      bool
	}{
		{two(), []int{1, 1}, []int{1}, true}, {two(), []int{1, 1}, []int{0, 2}, true}, {two(), []int{1, 1}, []int{0}, false}, {two(), []int{1, 1}, []int{2}, false},
		// With the pixel 1 the others have the value 0.
		{two(), []int{1, 1}, []int{0, 1}, false}, {two(), []int{1, 1}, []int{1, 2}, false}, {two(), []int{1, 2}, []int{0, 1}, true}, {two(), []int{1, 2}, []int{1, 2}, true},
		// All three depend on each other, whether they make the reading or not.
		{two(), []int{1, 1}, []int{0, 1, 2}, false}, {twice(), []int{1, 1}, []int{0, 1}, false}, {twice(), []int{1, 2}, []int{0, 1}, false}, {api.Mask{{0, 1}}, []int{1}, []int{0, 1}, false}, {api.Mask{{0, 1}}, []int{0}, []int{0}, false},
		// The empty list carries the reading of zeros alone, and nothing else does.
		{two(), []int{0, 0}, nil, true}, {two(), []int{0, 0}, []int{}, true}, {two(), []int{0, 1}, nil, false}, {two(), []int{0, 0}, []int{1}, false}, {two(), []int{0, 0}, []int{0, 2}, false}, {two(), []int{0, 0}, []int{0, 1, 2}, false},
		{twice(), []int{1, 2}, nil, false}, {twice(), []int{1, 2}, []int{0}, false}, {twice(), []int{3, 3}, []int{1}, true},
		{api.Mask{{1, 1}, {1, -1}}, []int{1, 0}, []int{0, 1}, true}, {api.Mask{{1, 1}, {1, -1}}, []int{1, 1}, []int{0, 1}, false},
		{units(6), filled(6, -top), upTo(6), true}, {units(6), []int{1, 1, 1, 1, 1, 0}, upTo(6), false}, {steep(), []int{1, 2, 3, 4, 5, 7}, upTo(6), true},
	} {
		if is, e := sparse.Carries(c.m, c.y, c.pixels); is != c.want || e != api.OK {
			t.Error("Carries", c.m, c.y, c.pixels, is, e)
		}
	}
}

func TestIsFit(t *testing.T) {
	half := api.Mask{{1, 1}, {1, -1}}
	for _, c := range []struct {
		m    api.Mask
		y    []int
		f    api.Fit
		want bool
	}{
		{two(), []int{1, 1}, fit([]int{1}, ratio(1, 1)), true}, {two(), []int{1, 1}, fit([]int{0, 2}, wholes(1, 1)...), true}, {two(), []int{-5, -5}, fit([]int{1}, ratio(-5, 1)), true},
		{two(), []int{1, 1}, fit([]int{1}, ratio(2, 1)), false}, {two(), []int{1, 1}, fit([]int{1}, ratio(-1, 1)), false}, {two(), []int{1, 1}, fit([]int{0, 2}, wholes(1, 2)...), false}, {two(), []int{1, 1}, fit([]int{0}, ratio(1, 1)), false},
		{half, []int{1, 0}, fit([]int{0, 1}, ratio(1, 2), ratio(1, 2)), true}, {half, []int{1, 2}, fit([]int{0, 1}, ratio(3, 2), ratio(-1, 2)), true},
		// No fractions in lowest terms, and no valid ones.
		{half, []int{1, 0}, fit([]int{0, 1}, ratio(2, 4), ratio(1, 2)), false}, {half, []int{1, 0}, fit([]int{0, 1}, ratio(-1, -2), ratio(1, 2)), false}, {two(), []int{1, 1}, fit([]int{1}, ratio(1, 0)), false}, {two(), []int{1, 1}, fit([]int{1}, ratio(401, 401)), false},
		// A value of 0.
		{two(), []int{1, 1}, fit([]int{0, 1}, wholes(0, 1)...), false}, {two(), []int{0, 0}, fit([]int{1}, ratio(0, 1)), false}, {two(), []int{0, 0}, fit([]int{1}, ratio(0, 0)), false},
		// Columns that depend on each other.
		{two(), []int{1, 1}, fit([]int{0, 1, 2}, ratio(1, 2), ratio(1, 2), ratio(1, 2)), false}, {twice(), []int{2, 2}, fit([]int{0, 1}, wholes(1, 1)...), false},
		{two(), []int{0, 0}, api.Fit{}, true}, {two(), []int{0, 0}, fit([]int{}), true}, {two(), []int{1, 0}, api.Fit{}, false},
		// Too few values, or too many.
		{two(), []int{1, 1}, fit([]int{1}), false}, {two(), []int{1, 1}, fit([]int{0, 2}, ratio(1, 1)), false}, {two(), []int{1, 1}, fit([]int{1}, wholes(1, 1)...), false}, {two(), []int{0, 0}, fit(nil, ratio(1, 1)), false}, {two(), []int{0, 0}, fit([]int{0}), false},
		// Pixels that are not there, or not ascending.
		{two(), []int{1, 1}, fit([]int{2, 0}, wholes(1, 1)...), false}, {two(), []int{2, 2}, fit([]int{1, 1}, wholes(1, 1)...), false}, {two(), []int{1, 1}, fit([]int{3}, ratio(1, 1)), false}, {two(), []int{1, 1}, fit([]int{-1}, ratio(1, 1)), false}, {two(), []int{1, 1}, fit([]int{math.MaxInt}, ratio(1, 1)), false},
		// No reading of this mask.
		{two(), []int{1}, fit([]int{1}, ratio(1, 1)), false}, {two(), []int{1, 1, 1}, fit([]int{1}, ratio(1, 1)), false}, {two(), nil, api.Fit{}, false}, {two(), []int{top, top}, fit([]int{1}, ratio(top, 1)), true}, {two(), []int{top + 1, top + 1}, fit([]int{1}, ratio(top+1, 1)), false},
		{twice(), []int{1, 2}, fit([]int{0}, ratio(1, 1)), false}, {twice(), []int{1, 2}, api.Fit{}, false},
	} {
		if is := sparse.IsFit(c.m, c.y, c.f); is != c.want {
			t.Error("IsFit", c.m, c.y, c.f, is)
		}
	}
	for _, m := range wrongMasks() {
		if sparse.IsFit(m, filled(len(m), 0), api.Fit{}) || sparse.IsFit(m, nil, api.Fit{}) || sparse.IsFit(m, filled(len(m), 1), fit([]int{0}, ratio(1, 1))) {
			t.Error("IsFit", m)
		}
	}
}

func TestFits(t *testing.T) {
	example := []api.Fit{fit([]int{1}, ratio(1, 1)), fit([]int{0, 2}, wholes(1, 1)...)}
	line := api.Mask{{1, -1, 0, 1}}
	cross := api.Mask{{1, 0, 1, 1}, {0, 1, 1, -1}}
	for _, c := range []struct {
		m    api.Mask
		y    []int
		k    int
		want []api.Fit
	}{
		{two(), []int{1, 1}, 0, nil}, {two(), []int{1, 1}, 1, example[:1]}, {two(), []int{1, 1}, 2, example}, {two(), []int{1, 1}, 3, example}, {two(), []int{1, 1}, 10, example},
		// The empty fit is the only one of the reading of zeros.
		{two(), []int{0, 0}, 0, []api.Fit{{}}}, {two(), []int{0, 0}, 10, []api.Fit{{}}}, {full(6, 10, 0), filled(6, 0), 10, []api.Fit{{}}},
		{line, []int{3}, 4, []api.Fit{fit([]int{0}, ratio(3, 1)), fit([]int{1}, ratio(-3, 1)), fit([]int{3}, ratio(3, 1))}},
		// By how many pixels they have, and then by these.
		{cross, []int{1, 3}, 4, []api.Fit{
			fit([]int{0, 1}, wholes(1, 3)...), fit([]int{0, 2}, wholes(-2, 3)...), fit([]int{0, 3}, wholes(4, -3)...), fit([]int{1, 2}, wholes(2, 1)...), fit([]int{1, 3}, wholes(4, 1)...), fit([]int{2, 3}, wholes(2, -1)...),
		}},
		{cross, []int{2, 1}, 4, []api.Fit{
			fit([]int{0, 1}, wholes(2, 1)...), fit([]int{0, 2}, wholes(1, 1)...), fit([]int{0, 3}, wholes(3, -1)...), fit([]int{1, 2}, wholes(-1, 2)...), fit([]int{1, 3}, wholes(3, 2)...), fit([]int{2, 3}, ratio(3, 2), ratio(1, 2)),
		}},
		{cross, []int{1, 0}, 2, []api.Fit{
			fit([]int{0}, ratio(1, 1)), fit([]int{1, 2}, wholes(-1, 1)...), fit([]int{1, 3}, wholes(1, 1)...), fit([]int{2, 3}, ratio(1, 2), ratio(1, 2)),
		}},
		// Impossible readings have no fits.
		{twice(), []int{1, 2}, 10, nil}, {api.Mask{{0}}, []int{1}, 10, nil}, {full(6, 10, 0), filled(6, 1), 10, nil},
		// Values may be beyond MaxValue.
		{api.Mask{{1, 0}, {1, 1}}, []int{top, -top}, 2, []api.Fit{fit([]int{0, 1}, wholes(top, -2*top)...)}},
	} {
		if l, e := sparse.Fits(c.m, c.y, c.k); e != api.OK || !slices.EqualFunc(l, c.want, equalFits) {
			t.Error("Fits", c.m, c.y, c.k, l, e)
		}
	}
}

// P4.2: the fits are just those that there are, by ranks alone, and each makes the reading.
func TestFitsOfAnyReading(t *testing.T) {
	var s numbers
	for _, m := range masks() {
		for _, y := range readings(&s, m) {
			// Large masks have too many sets for all readings.
			if len(m[0]) < 8 || s.below(2) == 0 {
				checkFits(t, &s, m, y)
			}
		}
	}
}

func checkFits(t *testing.T, s *numbers, m api.Mask, y []int) {
	t.Helper()
	want := carriers(m, y)
	all, e := sparse.Fits(m, y, api.MaxPixels)
	if e != api.OK || len(all) != len(want) {
		t.Fatal("Fits", m, y, all, e, want)
	}
	for i, f := range all {
		if !slices.Equal(f.Pixels, want[i]) || !made(m, y, f) || !sparse.IsFit(m, y, f) {
			t.Fatal("Fits", m, y, f, want[i])
		}
	}
	for _, k := range []int{0, 1, 2, s.below(api.MaxPixels + 1)} {
		l, e := sparse.Fits(m, y, k)
		if e != api.OK || !slices.EqualFunc(l, upToSize(all, k), equalFits) {
			t.Fatal("Fits up to", k, m, y, l, e)
		}
	}
	checkWhole(t, m, y, all)
	checkSparsest(t, m, y, all)
	for range 5 {
		pixels := s.subset(len(m[0]))
		carries := slices.ContainsFunc(want, func(l []int) bool { return slices.Equal(l, pixels) })
		if is, e := sparse.Carries(m, y, pixels); is != carries || e != api.OK {
			t.Fatal("Carries", m, y, pixels, is, e)
		}
	}
}

func upToSize(all []api.Fit, k int) []api.Fit {
	var some []api.Fit
	for _, f := range all {
		if len(f.Pixels) <= k {
			some = append(some, f)
		}
	}
	return some
}

func checkWhole(t *testing.T, m api.Mask, y []int, all []api.Fit) {
	t.Helper()
	for _, k := range []int{0, 1, 2, api.MaxPixels} {
		var want [][]int
		for _, f := range upToSize(all, k) {
			if slices.ContainsFunc(f.Values, func(r api.Ratio) bool { return r.D > 1 || max(r.N, -r.N) > top }) {
				continue
			}
			x := make([]int, len(m[0]))
			for i, j := range f.Pixels {
				x[j] = f.Values[i].N
			}
			want = append(want, x)
		}
		if l, e := sparse.Whole(m, y, k); e != api.OK || !equalLists(l, want) {
			t.Fatal("Whole", m, y, k, l, e, want)
		}
	}
}

func TestWhole(t *testing.T) {
	half := api.Mask{{1, 1, 1}, {1, -1, 0}}
	for _, c := range []struct {
		m    api.Mask
		y    []int
		k    int
		want [][]int
	}{
		{two(), []int{1, 1}, 0, nil}, {two(), []int{1, 1}, 1, [][]int{{0, 1, 0}}}, {two(), []int{1, 1}, 2, [][]int{{0, 1, 0}, {1, 0, 1}}}, {two(), []int{1, 1}, 10, [][]int{{0, 1, 0}, {1, 0, 1}}},
		{two(), []int{0, 0}, 0, [][]int{{0, 0, 0}}}, {two(), []int{0, 0}, 10, [][]int{{0, 0, 0}}}, {twice(), []int{1, 2}, 2, nil},
		// A fit with halves is not among them, in the midst of others.
		{half, []int{1, 0}, 3, [][]int{{0, 0, 1}}}, {half, []int{3, 2}, 3, [][]int{{2, 0, 1}, {0, -2, 5}}}, {half, []int{4, 2}, 3, [][]int{{3, 1, 0}, {2, 0, 2}, {0, -2, 6}}}, {api.Mask{{1, 1}, {1, -1}}, []int{1, 0}, 2, nil},
		// Values up to MaxValue, and none beyond it.
		{api.Mask{{1, 0}, {1, 1}}, []int{top / 2, -top / 2}, 2, [][]int{{top / 2, -top}}}, {api.Mask{{1, 0}, {1, 1}}, []int{-top / 2, top / 2}, 2, [][]int{{-top / 2, top}}},
		{api.Mask{{1, 0}, {1, 1}}, []int{top / 2, -top/2 - 1}, 2, nil}, {api.Mask{{1, 0}, {1, 1}}, []int{-top/2 - 1, top / 2}, 2, nil}, {api.Mask{{1, 0}, {1, 1}}, []int{top, -top}, 2, nil},
		{api.Mask{{0, 1, 0, -1}}, []int{top}, 4, [][]int{{0, top, 0, 0}, {0, 0, 0, -top}}},
	} {
		if l, e := sparse.Whole(c.m, c.y, c.k); e != api.OK || !equalLists(l, c.want) {
			t.Error("Whole", c.m, c.y, c.k, l, e)
		}
	}
}

func TestPicture(t *testing.T) {
	for _, c := range []struct {
		m    api.Mask
		f    api.Fit
		want []api.Ratio
		e    api.Errno
	}{
		{two(), api.Fit{}, wholes(0, 0, 0), api.OK}, {two(), fit([]int{}), wholes(0, 0, 0), api.OK}, {two(), fit([]int{1}, ratio(5, 2)), []api.Ratio{{N: 0, D: 1}, {N: 5, D: 2}, {N: 0, D: 1}}, api.OK},
		{two(), fit([]int{0, 2}, wholes(1, -1)...), wholes(1, 0, -1), api.OK}, {api.Mask{{0}}, fit([]int{0}, ratio(-1, 400)), []api.Ratio{{N: -1, D: 400}}, api.OK}, {full(6, 10, 0), fit([]int{9}, ratio(3, 1)), wholes(0, 0, 0, 0, 0, 0, 0, 0, 0, 3), api.OK},
		// The columns may depend on each other.
		{two(), fit([]int{0, 1, 2}, wholes(1, 2, 3)...), wholes(1, 2, 3), api.OK},
		{two(), fit([]int{0}, ratio(10000000000, 1)), wholes(10000000000, 0, 0), api.OK}, {two(), fit([]int{0}, ratio(-9999999999, 400)), []api.Ratio{{N: -9999999999, D: 400}, {N: 0, D: 1}, {N: 0, D: 1}}, api.OK},
		{two(), fit([]int{0}, ratio(10000000001, 1)), nil, api.ErrInvalid}, {two(), fit([]int{0}, ratio(-10000000001, 1)), nil, api.ErrInvalid}, {two(), fit([]int{0}, ratio(1, 401)), nil, api.ErrInvalid}, {two(), fit([]int{0}, ratio(2, 4)), nil, api.ErrInvalid}, {two(), fit([]int{0}, ratio(1, 0)), nil, api.ErrInvalid}, {two(), fit([]int{0}, ratio(1, -1)), nil, api.ErrInvalid}, {two(), fit([]int{0}, ratio(math.MinInt, math.MinInt)), nil, api.ErrInvalid}, {two(), fit([]int{0}, ratio(math.MaxInt, 1)), nil, api.ErrInvalid},
		{two(), fit([]int{0}, ratio(0, 1)), nil, api.ErrInvalid}, {two(), fit([]int{0, 1}, wholes(1, 0)...), nil, api.ErrInvalid}, {two(), fit([]int{0}, ratio(0, 0)), nil, api.ErrInvalid},
		{two(), fit([]int{0}), nil, api.ErrInvalid}, {two(), fit([]int{0, 1}, ratio(1, 1)), nil, api.ErrInvalid}, {two(), fit([]int{0}, wholes(1, 1)...), nil, api.ErrInvalid}, {two(), fit(nil, ratio(1, 1)), nil, api.ErrInvalid},
		{two(), fit([]int{1, 0}, wholes(1, 1)...), nil, api.ErrInvalid}, {two(), fit([]int{1, 1}, wholes(1, 1)...), nil, api.ErrInvalid}, {two(), fit([]int{0, 2, 1}, wholes(1, 1, 1)...), nil, api.ErrInvalid},
		{two(), fit([]int{3}, ratio(1, 1)), nil, api.ErrName}, {two(), fit([]int{-1}, ratio(1, 1)), nil, api.ErrName}, {two(), fit([]int{0, 1, 2, 3}, wholes(1, 1, 1, 1)...), nil, api.ErrName}, {two(), fit([]int{math.MinInt, math.MaxInt}, wholes(1, 1)...), nil, api.ErrName}, {two(), fit(upTo(11), wholes(filled(11, 1)...)...), nil, api.ErrName},
		// What is not valid is told ahead of a pixel that there is not, wherever it is.
		{two(), fit([]int{3}, ratio(0, 1)), nil, api.ErrInvalid}, {two(), fit([]int{4, 3}, wholes(1, 1)...), nil, api.ErrInvalid}, {two(), fit([]int{-1, 0}, wholes(1, 0)...), nil, api.ErrInvalid}, {two(), fit([]int{-1, 1, 0}, wholes(1, 1, 1)...), nil, api.ErrInvalid}, {two(), fit([]int{3}), nil, api.ErrInvalid},
	} {
		if x, e := sparse.Picture(c.m, c.f); e != c.e || !slices.Equal(x, c.want) {
			t.Error("Picture", c.m, c.f, x, e)
		}
	}
	for _, m := range wrongMasks() {
		for _, f := range []api.Fit{{}, fit([]int{0}, ratio(1, 1)), fit([]int{99}, ratio(1, 1)), fit([]int{0}, ratio(0, 1))} {
			if x, e := sparse.Picture(m, f); len(x) != 0 || e != api.ErrInvalid {
				t.Error("Picture", m, f, x, e)
			}
		}
	}
}
