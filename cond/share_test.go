package cond_test

import (
	"math"
	"slices"
	"testing"

	"lightsieve/api"
	"lightsieve/cond"
	"lightsieve/lin"
	"lightsieve/mask"
)

func TestShare(t *testing.T) {
	for _, c := range []struct {
		h, pixels []int
		want      api.Ratio
	}{
		{[]int{1, -1, 1}, []int{0}, ratio(1, 3)}, {[]int{1, -1, 1}, []int{1}, ratio(1, 3)}, {[]int{1, -1, 1}, []int{0, 1}, ratio(2, 3)}, {[]int{1, -1, 1}, []int{0, 1, 2}, ratio(1, 1)}, {[]int{1, -1, 1}, nil, ratio(0, 1)}, {[]int{1, -1, 1}, []int{}, ratio(0, 1)},
		{[]int{1}, []int{0}, ratio(1, 1)}, {[]int{-7}, []int{0}, ratio(1, 1)}, {[]int{-7}, nil, ratio(0, 1)}, {[]int{0, 5}, []int{0}, ratio(0, 1)}, {[]int{0, 5}, []int{1}, ratio(1, 1)}, {[]int{0, 5}, []int{0, 1}, ratio(1, 1)},
		// Lists that no mask hides, in lowest terms.
		{[]int{2, 4, 6}, []int{0}, ratio(1, 6)}, {[]int{2, 4, 6}, []int{1}, ratio(1, 3)}, {[]int{2, 4, 6}, []int{2}, ratio(1, 2)}, {[]int{-2, 4, -6}, []int{0, 2}, ratio(2, 3)}, {[]int{3, -3, 0, 3, -3}, []int{1, 2, 4}, ratio(1, 2)},
		{[]int{top, -top, 1}, []int{0}, ratio(top, 2*top+1)}, {[]int{top, -top, 1}, []int{2}, ratio(1, 2*top+1)}, {[]int{-top}, []int{0}, ratio(1, 1)}, {filled(10, -top), []int{1, 3, 9}, ratio(3, 10)}, {filled(10, top), upTo(10), ratio(1, 1)}, {[]int{top, top - 1, 0, 0, 0, 0, 0, 0, 0, -1}, []int{1, 9}, ratio(1, 2)}, {[]int{top, 1, 2, 3, 4, 5, 6, 7, 8, 9}, []int{0, 9}, ratio(top+9, top+45)},
	} {
		if r, e := cond.Share(c.h, c.pixels); r != c.want || e != api.OK {
			t.Error("Share", c.h, c.pixels, r, e)
		}
	}
}

func TestErrorsOfShare(t *testing.T) {
	for _, h := range [][]int{nil, {}, {0}, {0, 0, 0}, filled(10, 0), filled(11, 1), filled(11, 0), filled(1000, 1), {top + 1}, {-top - 1}, {1, top + 1}, {1, 1, -top - 1}, {math.MaxInt}, {math.MinInt, 1}, {1, 1, math.MaxInt, 1}} {
		for _, pixels := range [][]int{nil, {0}, {0, 0}, {99}, {-1}, {1, 0}} {
			if r, e := cond.Share(h, pixels); r != ratio(0, 0) || e != api.ErrInvalid {
				t.Error("Share", h, pixels, r, e)
			}
		}
	}
	for want, pixels := range wrongPixels() {
		for _, l := range pixels {
			for _, h := range [][]int{{1, -1, 1}, {0, 0, 5}, {top, top, -top}} {
				if r, e := cond.Share(h, l); r != ratio(0, 0) || e != want {
					t.Error("Share", h, l, r, e)
				}
			}
		}
	}
}

func TestShareOfAnyList(t *testing.T) {
	var s numbers
	for n := 1; n <= 10; n++ {
		for _, limit := range []int{1, 2, 5, 160, top} {
			h := s.list(n, limit)
			h[s.below(n)] = 1 + s.below(limit)
			for _, pixels := range subsets(n) {
				if r, e := cond.Share(h, pixels); r != shareOf(h, pixels).lowest() || e != api.OK {
					t.Fatal("Share", h, pixels, r, e)
				}
			}
		}
	}
}

func TestOf(t *testing.T) {
	for _, c := range []struct {
		m      api.Mask
		pixels []int
		want   api.Ratio
	}{
		{two(), nil, ratio(0, 1)}, {two(), []int{0}, ratio(1, 3)}, {two(), []int{1}, ratio(1, 3)}, {two(), []int{0, 2}, ratio(2, 3)}, {two(), []int{0, 1, 2}, ratio(1, 1)}, {twice(), []int{0}, ratio(1, 2)}, {twice(), []int{0, 1}, ratio(1, 1)},
		{line(), []int{2}, ratio(1, 1)}, {line(), []int{0}, ratio(1, 2)}, {line(), []int{0, 1}, ratio(1, 1)}, {line(), []int{0, 2}, ratio(1, 1)},
		// Columns of zeros are circuits by themselves.
		{api.Mask{{0}}, []int{0}, ratio(1, 1)}, {api.Mask{{0}}, nil, ratio(0, 1)}, {api.Mask{{1, 0}}, []int{0}, ratio(0, 1)}, {api.Mask{{1, 0}}, []int{1}, ratio(1, 1)}, {full(6, 10, 0), []int{4}, ratio(1, 1)}, {full(6, 10, 1), []int{4}, ratio(1, 2)},
		// No circuits.
		{units(1), []int{0}, ratio(0, 1)}, {half(), []int{0, 1}, ratio(0, 1)}, {units(6), upTo(6), ratio(0, 1)}, {steep(), []int{5}, ratio(0, 1)},
		// The numbers of a circuit need not be of one size.
		{api.Mask{{1, 1, 1}, {1, -1, 0}}, []int{2}, ratio(1, 2)}, {api.Mask{{1, 1, 1}, {1, -1, 0}}, []int{0}, ratio(1, 4)}, {api.Mask{{1, 1, 1}, {1, -1, 0}}, []int{0, 1}, ratio(1, 2)}, {ring(6), []int{0, 3, 6}, ratio(3, 7)}, {ring(6), []int{0, 1, 2, 3}, ratio(4, 7)},
	} {
		if r, e := cond.Of(c.m, c.pixels); r != c.want || e != api.OK {
			t.Error("Of", c.m, c.pixels, r, e)
		}
	}
}

func TestGreatest(t *testing.T) {
	for _, c := range []struct {
		m    api.Mask
		want []api.Ratio
	}{
		{two(), []api.Ratio{{N: 0, D: 1}, {N: 1, D: 3}, {N: 2, D: 3}, {N: 1, D: 1}}},
		{twice(), []api.Ratio{{N: 0, D: 1}, {N: 1, D: 2}, {N: 1, D: 1}}},
		{half(), []api.Ratio{{N: 0, D: 1}, {N: 0, D: 1}, {N: 0, D: 1}}},
		{line(), []api.Ratio{{N: 0, D: 1}, {N: 1, D: 1}, {N: 1, D: 1}, {N: 1, D: 1}, {N: 1, D: 1}}},
		{api.Mask{{0}}, []api.Ratio{{N: 0, D: 1}, {N: 1, D: 1}}},
		{units(1), []api.Ratio{{N: 0, D: 1}, {N: 0, D: 1}}},
		{ring(4), []api.Ratio{{N: 0, D: 1}, {N: 1, D: 5}, {N: 2, D: 5}, {N: 3, D: 5}, {N: 4, D: 5}, {N: 1, D: 1}}},
		{ring(5), []api.Ratio{{N: 0, D: 1}, {N: 1, D: 6}, {N: 1, D: 3}, {N: 1, D: 2}, {N: 2, D: 3}, {N: 5, D: 6}, {N: 1, D: 1}}},
		{api.Mask{{1, 1, 1}, {1, -1, 0}}, []api.Ratio{{N: 0, D: 1}, {N: 1, D: 2}, {N: 3, D: 4}, {N: 1, D: 1}}},
		{besides(ring(2), full(2, 1, 0)), []api.Ratio{{N: 0, D: 1}, {N: 1, D: 1}, {N: 1, D: 1}, {N: 1, D: 1}, {N: 1, D: 1}}},
	} {
		for k, want := range c.want {
			if r, e := cond.Greatest(c.m, k); r != want || e != api.OK {
				t.Error("Greatest", c.m, k, r, e)
			}
		}
		if r, e := cond.Greatest(c.m, len(c.want)); r != ratio(0, 0) || e != api.ErrRange {
			t.Error("Greatest of more pixels than there are", c.m, r, e)
		}
	}
}

func TestWhere(t *testing.T) {
	for _, c := range []struct {
		m         api.Mask
		k         int
		h, pixels []int
		e         api.Errno
	}{
		{two(), 0, []int{1, -1, 1}, nil, api.OK}, {two(), 1, []int{1, -1, 1}, []int{0}, api.OK}, {two(), 2, []int{1, -1, 1}, []int{0, 1}, api.OK}, {two(), 3, []int{1, -1, 1}, []int{0, 1, 2}, api.OK}, {twice(), 1, []int{1, -1}, []int{0}, api.OK}, {twice(), 2, []int{1, -1}, []int{0, 1}, api.OK},
		// The first of several circuits, and pixels that lie outside of it.
		{line(), 0, []int{0, 0, 1, 0}, nil, api.OK}, {line(), 1, []int{0, 0, 1, 0}, []int{2}, api.OK}, {line(), 2, []int{0, 0, 1, 0}, []int{0, 2}, api.OK}, {line(), 3, []int{0, 0, 1, 0}, []int{0, 1, 2}, api.OK}, {line(), 4, []int{0, 0, 1, 0}, []int{0, 1, 2, 3}, api.OK},
		{full(1, 4, 1), 1, []int{1, -1, 0, 0}, []int{0}, api.OK}, {full(1, 4, 1), 2, []int{1, -1, 0, 0}, []int{0, 1}, api.OK}, {full(1, 4, 1), 3, []int{1, -1, 0, 0}, []int{0, 1, 2}, api.OK}, {full(6, 10, 0), 2, []int{1, 0, 0, 0, 0, 0, 0, 0, 0, 0}, []int{0, 1}, api.OK}, {api.Mask{{1, 0, 0}}, 2, []int{0, 1, 0}, []int{0, 1}, api.OK}, {api.Mask{{1, 1, 0}, {0, 0, 1}}, 3, []int{1, -1, 0}, []int{0, 1, 2}, api.OK},
		// The greatest numbers of a circuit, which need not be its first ones.
		{api.Mask{{1, 1, 1}, {1, -1, 0}}, 1, []int{1, 1, -2}, []int{2}, api.OK}, {api.Mask{{1, 1, 1}, {1, -1, 0}}, 2, []int{1, 1, -2}, []int{0, 2}, api.OK}, {api.Mask{{1, 1, 1}, {1, -1, 0}}, 3, []int{1, 1, -2}, []int{0, 1, 2}, api.OK},
		// Circuits that come behind others, and have more than these; of several the first.
		{api.Mask{{1, 0, 1, -1, 1}, {1, 0, -1, 0, 0}, {-1, 1, 0, 0, 1}}, 1, []int{1, 0, 1, 3, 1}, []int{3}, api.OK}, {api.Mask{{1, 0, 1, -1, 1}, {1, 0, -1, 0, 0}, {-1, 1, 0, 0, 1}}, 2, []int{1, 3, 1, 0, -2}, []int{1, 4}, api.OK}, {api.Mask{{1, 0, -1, 1}, {-1, -1, 0, 1}}, 1, []int{1, -2, 0, -1}, []int{1}, api.OK}, {api.Mask{{1, 0, -1, 1}, {-1, -1, 0, 1}}, 2, []int{1, -2, 0, -1}, []int{0, 1}, api.OK},
		{units(1), 1, nil, nil, api.ErrNone}, {units(6), 0, nil, nil, api.ErrNone}, {half(), 2, nil, nil, api.ErrNone}, {steep(), 6, nil, nil, api.ErrNone},
	} {
		if h, l, e := cond.Where(c.m, c.k); !slices.Equal(h, c.h) || !slices.Equal(l, c.pixels) || e != c.e {
			t.Error("Where", c.m, c.k, h, l, e)
		}
	}
}

// checkShares holds the shares of sets of pixels, of a large mask some, against those of vectors of which the circuits are some.
func checkShares(t *testing.T, m api.Mask, s *numbers) {
	vectors := hiddenBy(m)
	for _, pixels := range subsets(len(m[0])) {
		if len(m[0]) > 6 && s.below(1<<(len(m[0])-4)) > 0 {
			continue
		}
		want := greatestOf(vectors, pixels)
		if r, e := cond.Of(m, pixels); r != want.lowest() || e != api.OK {
			t.Fatal("Of", m, pixels, r, e)
		}
		if is, e := cond.Safe(m, pixels); is == want.isHalf() || e != api.OK {
			t.Fatal("Safe", m, pixels, is, e)
		}
	}
}

// checkGreatest holds the greatest shares, and the first place of each, against those of all sets.
func checkGreatest(t *testing.T, m api.Mask) {
	circuits, _ := lin.Circuits(m)
	for k, want := range greatestUpTo(hiddenBy(m), len(m[0])) {
		if r, e := cond.Greatest(m, k); r != want.lowest() || e != api.OK {
			t.Fatal("Greatest", m, k, r, e)
		}
		h, pixels, e := cond.Where(m, k)
		wantH, wantPixels := firstWith(circuits, k, want)
		if !slices.Equal(h, wantH) || !slices.Equal(pixels, wantPixels) || (e == api.OK) != (len(circuits) > 0) {
			t.Fatal("Where", m, k, h, pixels, e)
		}
	}
}

func firstWith(circuits [][]int, k int, want part) (h, pixels []int) {
	if len(circuits) == 0 {
		return nil, nil
	}
	sets := subsetsOf(len(circuits[0]), k)
	for _, h := range circuits {
		for _, pixels := range sets {
			if s := shareOf(h, pixels); !s.above(want) && !want.above(s) {
				return h, pixels
			}
		}
	}
	return nil, nil
}

func TestSharesOfAnyMask(t *testing.T) {
	var s numbers
	for i, m := range masks() {
		checkShares(t, m, &s)
		if len(m[0]) < 8 || i%3 == 0 {
			checkGreatest(t, m)
		}
	}
}

// P6.2: no sum of kernel vectors has more.
func TestNoKernelVectorHasMore(t *testing.T) {
	var s numbers
	for _, m := range largeMasks() {
		basis, _ := lin.Kernel(m)
		for range 20 {
			h := filled(len(m[0]), 0)
			for _, b := range basis {
				h = plus(h, times(s.below(7)-3, b))
			}
			if lit(h) == 0 {
				continue
			}
			pixels := slices.DeleteFunc(upTo(len(h)), func(int) bool { return s.below(2) == 0 })
			in, e := cond.Share(h, pixels)
			of, f := cond.Of(m, pixels)
			greatest, g := cond.Greatest(m, len(pixels))
			if e != api.OK || f != api.OK || g != api.OK || lin.Compare(in, of) > 0 || lin.Compare(of, greatest) > 0 {
				t.Fatal("shares", m, h, pixels, in, of, greatest)
			}
		}
	}
}

// P6.2: the circuit that is told has the share, and the share of more pixels is not less.
func TestWhereHasTheGreatestShare(t *testing.T) {
	for _, m := range masks() {
		last := ratio(0, 1)
		for k := range len(m[0]) + 1 {
			greatest, _ := cond.Greatest(m, k)
			if lin.Compare(last, greatest) > 0 {
				t.Fatal("Greatest becomes less", m, k, greatest)
			}
			last = greatest
			h, pixels, e := cond.Where(m, k)
			if e == api.ErrNone {
				continue
			}
			r, f := cond.Share(h, pixels)
			if e != api.OK || f != api.OK || r != greatest || len(pixels) != k || !lin.IsKernel(m, h) || !lin.Primitive(h) {
				t.Fatal("Where", m, k, h, pixels, e, f)
			}
		}
	}
}

// P6.5.
func TestFurtherRowsMakeNoShareGreater(t *testing.T) {
	var s numbers
	for _, m := range masks() {
		longer, e := mask.Stacked(m, s.mask(1, len(m[0])))
		if e != api.OK {
			continue
		}
		for k := range len(m[0]) + 1 {
			r, _ := cond.Greatest(m, k)
			with, _ := cond.Greatest(longer, k)
			if lin.Compare(with, r) > 0 {
				t.Fatal("Greatest", longer, k, with, r)
			}
		}
		pixels := slices.DeleteFunc(upTo(len(m[0])), func(int) bool { return s.below(2) == 0 })
		r, _ := cond.Of(m, pixels)
		if with, _ := cond.Of(longer, pixels); lin.Compare(with, r) > 0 {
			t.Fatal("Of", longer, pixels, with, r)
		}
	}
}
