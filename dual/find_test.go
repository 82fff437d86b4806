package dual_test

import (
	"math"
	"slices"
	"testing"

	"lightsieve/api"
	"lightsieve/dual"
	"lightsieve/mask"
	"lightsieve/sparse"
)

func TestFinds(t *testing.T) {
	for _, c := range []struct {
		m    api.Mask
		x    []int
		want bool
		e    api.Errno
	}{
		{two(), []int{0, 0, 0}, true, api.OK}, {two(), []int{1, 0, 0}, true, api.OK}, {two(), []int{0, -7, 0}, true, api.OK}, {two(), []int{0, 0, 1}, true, api.OK}, {two(), []int{1, 1, 0}, true, api.OK}, {two(), []int{-1, -5, 0}, true, api.OK}, {two(), []int{0, 3, 2}, true, api.OK}, {two(), []int{1, 0, -1}, true, api.OK}, {two(), []int{3, 0, -1}, true, api.OK},
		{two(), []int{1, 0, 1}, false, api.OK}, {two(), []int{-1, 0, -4}, false, api.OK}, {two(), []int{1, -1, 0}, false, api.OK}, {two(), []int{0, -1, 1}, false, api.OK}, {two(), []int{1, 1, 1}, false, api.OK}, {two(), []int{1, -1, 1}, false, api.OK}, {two(), []int{-1, 1, 1}, false, api.OK},
		// Where a step to other pictures leaves the norm as it is.
		{twice(), []int{1, 0}, false, api.OK}, {twice(), []int{0, 1}, false, api.OK}, {twice(), []int{0, 0}, true, api.OK}, {line(), []int{1, 0, 0, 0}, false, api.OK}, {api.Mask{{1, 1, 1, 0}, {0, 1, -1, 1}}, []int{2, 0, 0, 0}, false, api.OK},
		// Pixels that are not seen, and masks that see all.
		{api.Mask{{0}}, []int{0}, true, api.OK}, {api.Mask{{0}}, []int{1}, false, api.OK}, {api.Mask{{1, 0}}, []int{5, 0}, true, api.OK}, {api.Mask{{1, 0}}, []int{5, -1}, false, api.OK}, {full(6, 10, 0), filled(10, 0), true, api.OK}, {half(), []int{1, 2}, true, api.OK}, {units(6), []int{1, -2, 3, -4, 5, -top}, true, api.OK}, {steep(), []int{1, 2, 3, -4, 5, 6}, true, api.OK},
		// The reading has a number beyond MaxValue.
		{two(), []int{top, 0, 0}, true, api.OK}, {two(), []int{0, top, 0}, true, api.OK}, {two(), []int{top, 1, 0}, false, api.ErrState}, {two(), []int{0, 1, top}, false, api.ErrState}, {two(), []int{-top, -1, 0}, false, api.ErrState}, {two(), []int{0, top, top}, false, api.ErrState}, {two(), []int{top, -1, 0}, false, api.OK}, {two(), []int{top, 0, top}, false, api.OK}, {full(1, 10, 1), filled(10, top), false, api.ErrState}, {half(), []int{top, 1}, false, api.ErrState}, {half(), []int{top, -1}, false, api.ErrState}, {half(), []int{top - 1, 1}, true, api.OK},
	} {
		if is, e := dual.Finds(c.m, c.x); is != c.want || e != c.e {
			t.Error("Finds", c.m, c.x, is, e)
		}
	}
}

func TestErrorsOfFinds(t *testing.T) {
	for _, x := range [][]int{nil, {}, {1, 0}, {1, 0, 0, 0}, {top + 1, top}, {0, 0, 0, top + 1}} {
		if is, e := dual.Finds(two(), x); is || e != api.ErrSize {
			t.Error("Finds", x, is, e)
		}
	}
	for _, x := range [][]int{{top + 1, 0, 0}, {0, 0, -top - 1}, {top, top, top + 1}, {math.MinInt, 0, 0}, {0, math.MaxInt, 0}} {
		if is, e := dual.Finds(two(), x); is || e != api.ErrRange {
			t.Error("Finds", x, is, e)
		}
	}
	for _, m := range wrongMasks() {
		for _, x := range [][]int{nil, {0}, {0, 0}, {top + 1}} {
			if is, e := dual.Finds(m, x); is || e != api.ErrInvalid {
				t.Error("Finds", m, x, is, e)
			}
		}
		for _, k := range []int{1, 10, 0, 11} {
			if x, e := dual.Missed(m, k); len(x) != 0 || e != api.ErrInvalid {
				t.Error("Missed", m, k, x, e)
			}
		}
	}
	for _, m := range []api.Mask{two(), units(2), twice()} {
		for _, k := range []int{0, -1, 11, math.MinInt, math.MaxInt} {
			if x, e := dual.Missed(m, k); len(x) != 0 || e != api.ErrRange {
				t.Error("Missed", m, k, x, e)
			}
		}
	}
}

// only tells by the corners whether a picture is the only one.
func only(m api.Mask, x []int) bool {
	corners, _ := dual.Corners(m, readOf(m, x))
	return len(corners) == 1 && slices.Equal(corners[0], wholes(x...))
}

// P5.4.
func TestFindsOfAnyPicture(t *testing.T) {
	var s numbers
	all, found := 0, 0
	for _, m := range masks() {
		for k := range 5 {
			if len(m[0]) > 6 && s.below(2) == 0 {
				continue
			}
			x := s.dots(len(m[0]), k, 3)
			want := only(m, x)
			if is, e := dual.Finds(m, x); is != want || e != api.OK {
				t.Fatal("Finds", m, x, is, e)
			}
			all++
			if want {
				found++
			}
		}
	}
	if found < all/5 || found > all*4/5 {
		t.Error("found", found, "of", all)
	}
}

// The picture that is found need not be small, and its reading may be as great as readings are.
func TestFindsGreatPictures(t *testing.T) {
	var s numbers
	for _, m := range largeMasks() {
		for _, limit := range []int{1000, top / 10, top} {
			x := s.dots(len(m[0]), 2, limit)
			_, e := dual.Value(m, readOf(m, x))
			is, f := dual.Finds(m, x)
			if e == api.ErrRange && (is || f != api.ErrState) || e == api.OK && (is != only(m, x) || f != api.OK) {
				t.Fatal("Finds", m, x, is, f, e)
			}
		}
	}
}

// evenMasks have columns with equally many numbers that are not 0, which are little like each other.
func evenMasks(s *numbers) []api.Mask {
	var all []api.Mask
	for range 300 {
		weight, least := 2+s.below(3), 3+s.below(2)
		m := api.Mask{}
		for range 6 {
			m = append(m, []int{})
		}
		for range 400 {
			c := s.dots(6, 6, 1)
			longer := make(api.Mask, 6)
			for i := range longer {
				longer[i] = append(slices.Clone(m[i]), c[i])
			}
			if dot(c, c) != weight || len(longer[0]) > 10 {
				continue
			}
			likeness, e := mask.Coherence(longer)
			if len(longer[0]) == 1 || e == api.OK && likeness.N*least < likeness.D {
				m = longer
			}
		}
		if len(m[0]) > 0 {
			all = append(all, m)
		}
	}
	return all
}

// P5.4: what the coherence says.
func TestFindsUpToBound(t *testing.T) {
	var s numbers
	found := 0
	for _, m := range evenMasks(&s) {
		k, e := sparse.Bound(m)
		if e != api.OK {
			continue
		}
		for range 5 {
			x := s.dots(len(m[0]), k, 1000)
			if is, e := dual.Finds(m, x); !is || e != api.OK {
				t.Fatal("Finds of a picture within Bound", m, k, x, is, e)
			}
			if k > 0 && k < len(m[0]) {
				found++
			}
		}
		if k > 0 {
			if x, e := dual.Missed(m, k); len(x) != 0 || e != api.ErrNone {
				t.Fatal("Missed within Bound", m, k, x, e)
			}
		}
	}
	if found < 300 {
		t.Error("too few pictures within Bound:", found)
	}
}

func TestMissed(t *testing.T) {
	for _, c := range []struct {
		m    api.Mask
		k    int
		want []int
		e    api.Errno
	}{
		{two(), 1, nil, api.ErrNone}, {two(), 2, []int{-1, 0, -1}, api.OK}, {two(), 3, []int{-1, -1, -1}, api.OK}, {two(), 10, []int{-1, -1, -1}, api.OK}, {twice(), 1, []int{-1, 0}, api.OK}, {twice(), 2, []int{-1, -1}, api.OK}, {line(), 1, []int{-1, 0, 0, 0}, api.OK}, {line(), 2, []int{-1, -1, 0, 0}, api.OK},
		{api.Mask{{0}}, 1, []int{-1}, api.OK}, {api.Mask{{1, 0}}, 1, []int{0, -1}, api.OK}, {api.Mask{{1, 0}}, 2, []int{-1, -1}, api.OK}, {api.Mask{{1, 0, 0}, {0, 1, -1}}, 1, []int{0, -1, 0}, api.OK}, {full(6, 10, 0), 3, []int{-1, -1, -1, 0, 0, 0, 0, 0, 0, 0}, api.OK}, {besides(units(6), full(6, 4, 0)), 2, []int{-1, 0, 0, 0, 0, 0, -1, 0, 0, 0}, api.OK}, {besides(units(6), full(6, 4, 0)), 6, []int{-1, -1, -1, -1, -1, 0, -1, 0, 0, 0}, api.OK},
		{besides(units(4), full(4, 1, 1)), 1, nil, api.ErrNone}, {besides(units(4), full(4, 1, 1)), 2, nil, api.ErrNone}, {besides(units(4), full(4, 1, 1)), 3, []int{-1, -1, -1, 0, 0}, api.OK}, {besides(units(3), full(3, 1, 1)), 2, []int{-1, -1, 0, 0}, api.OK}, {besides(units(5), full(5, 1, -1)), 3, []int{-1, -1, -1, 0, 0, 0}, api.OK}, {besides(units(6), full(6, 1, 1)), 4, []int{-1, -1, -1, -1, 0, 0, 0}, api.OK}, {besides(units(6), full(6, 1, 1)), 3, nil, api.ErrNone},
		// All is seen.
		{units(1), 1, nil, api.ErrNone}, {units(6), 10, nil, api.ErrNone}, {half(), 2, nil, api.ErrNone}, {steep(), 6, nil, api.ErrNone}, {api.Mask{{1, 0}, {1, 1}, {0, 1}}, 2, nil, api.ErrNone},
	} {
		if x, e := dual.Missed(c.m, c.k); !slices.Equal(x, c.want) || e != c.e {
			t.Error("Missed", c.m, c.k, x, e)
		}
	}
}

func lit(x []int) int {
	pixels := 0
	for _, n := range x {
		if n != 0 {
			pixels++
		}
	}
	return pixels
}

// The first one of all lists is told, for small masks by their corners.
func TestMissedOfAnyMask(t *testing.T) {
	var s numbers
	for _, m := range masks() {
		small := len(m[0]) <= 3
		if len(m[0]) > 7 && s.below(3) > 0 || small && s.below(4) > 0 {
			continue
		}
		all := lists(len(m[0]), 1)
		for k := 1; k <= len(m[0])+1 && k <= api.MaxPixels; k++ {
			x, e := dual.Missed(m, k)
			at := slices.IndexFunc(all, func(l []int) bool {
				if lit(l) > k {
					return false
				}
				if small {
					return !only(m, l)
				}
				is, _ := dual.Finds(m, l)
				return !is
			})
			if at < 0 && (len(x) != 0 || e != api.ErrNone) || at >= 0 && (!slices.Equal(x, all[at]) || e != api.OK) {
				t.Fatal("Missed", m, k, x, e, at)
			}
		}
	}
}
