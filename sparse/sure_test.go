package sparse_test

import (
	"math"
	"math/big"
	"slices"
	"testing"

	"lightsieve/api"
	"lightsieve/lin"
	"lightsieve/mask"
	"lightsieve/sparse"
)

func TestSure(t *testing.T) {
	for _, c := range []struct {
		m    api.Mask
		want int
	}{
		{two(), 1},
		// The least circuits have one pixel, two, three, and up to seven.
		{api.Mask{{0}}, 0}, {api.Mask{{1, 0}}, 0}, {full(6, 10, 0), 0}, {twice(), 0}, {full(6, 10, 1), 0}, {api.Mask{{1, -1, 0, 1}}, 0},
		{besides(units(3), api.Mask{{1}, {1}, {1}}), 1}, {besides(units(4), full(4, 1, 1)), 2}, {besides(units(5), full(5, 1, -1)), 2}, {besides(units(6), full(6, 1, 1)), 3}, {besides(units(6), full(6, 2, 1)), 0}, {far(), 3},
		// No circuits.
		{api.Mask{{1}}, 1}, {api.Mask{{-1}, {0}}, 1}, {api.Mask{{1, 1}, {1, -1}}, 2}, {units(6), 6}, {steep(), 6}, {farther(), 6}, {api.Mask{{1, 0}, {1, 1}, {0, 1}}, 2},
	} {
		if sure, e := sparse.Sure(c.m); sure != c.want || e != api.OK {
			t.Error("Sure", c.m, sure, e)
		}
	}
	for _, m := range wrongMasks() {
		if sure, e := sparse.Sure(m); sure != 0 || e != api.ErrInvalid {
			t.Error("Sure", m, sure, e)
		}
	}
}

func TestBound(t *testing.T) {
	for _, c := range []struct {
		m    api.Mask
		want int
		e    api.Errno
	}{
		{two(), 1, api.OK},
		// 1, as few as 1/4, just 1/9, below it, just 1/25, below it, and 0.
		{twice(), 0, api.OK}, {api.Mask{{1, -1, 1}}, 0, api.OK}, {api.Mask{{1, 0, 1}, {0, 1, 1}}, 1, api.OK}, {api.Mask{{1, 1}, {1, 0}, {1, 0}, {0, 1}, {0, 1}}, 1, api.OK}, {api.Mask{{1, 1}, {1, 0}, {1, 1}, {1, 0}, {1, 0}}, 1, api.OK},
		{api.Mask{{1, 0}, {1, 1}, {1, 1}, {1, 1}, {1, 1}, {0, 1}}, 1, api.OK}, {api.Mask{{1, 1, 0}, {1, 0, 0}, {1, 0, 0}, {1, 0, 0}, {0, 1, 0}, {0, 1, 1}}, 1, api.OK}, {far(), 2, api.OK},
		{api.Mask{{1, 0, 1}, {1, 1, 0}, {1, 1, 0}, {1, 1, 0}, {1, -1, 0}, {0, -1, 0}}, 1, api.OK}, {farther(), 3, api.OK}, {api.Mask{{1, 1}, {1, 1}, {1, -1}, {1, -1}, {1, 1}, {1, 0}}, 2, api.OK},
		{units(1), 0, api.ErrNone}, {units(2), 2, api.OK}, {units(3), 3, api.OK}, {units(6), 6, api.OK}, {api.Mask{{1, 1}, {1, -1}}, 2, api.OK},
		// No coherence.
		{api.Mask{{1}}, 0, api.ErrNone}, {api.Mask{{0}}, 0, api.ErrNone}, {full(6, 1, 1), 0, api.ErrNone}, {api.Mask{{1, 0}}, 0, api.ErrNone}, {full(6, 10, 0), 0, api.ErrNone}, {api.Mask{{1, 0, 0}, {0, 1, 0}}, 0, api.ErrNone},
	} {
		if k, e := sparse.Bound(c.m); k != c.want || e != c.e {
			t.Error("Bound", c.m, k, e)
		}
	}
	for _, m := range wrongMasks() {
		if k, e := sparse.Bound(m); k != 0 || e != api.ErrInvalid {
			t.Error("Bound", m, k, e)
		}
	}
}

// boundOf asks each number of pixels by itself.
func boundOf(m api.Mask, c api.Ratio) int {
	greatest := 0
	for k := 1; k <= len(m[0]); k++ {
		if new(big.Rat).Mul(big.NewRat(int64((2*k-1)*(2*k-1)), 1), bigRatio(c)).Cmp(big.NewRat(1, 1)) < 0 {
			greatest = k
		}
	}
	return greatest
}

// P4.4.
func TestGreedyFindsUpToBound(t *testing.T) {
	var s numbers
	found := 0
	for _, m := range append(masks(), coherentMasks(&s)...) {
		c, none := mask.Coherence(m)
		k, e := sparse.Bound(m)
		if e != none || e == api.OK && k != boundOf(m, c) || e != api.OK && k != 0 {
			t.Fatal("Bound", m, c, k, e)
		}
		_, e = lin.Spark(m)
		if sure, _ := sparse.Sure(m); e == api.OK && k > sure {
			t.Fatal("Bound is above Sure", m, k, sure)
		}
		for range 5 {
			x := s.dots(len(m[0]), k, top/10)
			if f, e := sparse.Greedy(m, readOf(m, x)); e != api.OK || !equalFits(f, asFit(x)) {
				t.Fatal("Greedy of a picture within Bound", m, x, f, e)
			}
			if k > 1 && k < len(m[0]) && len(support(x)) > 1 {
				found++
			}
		}
	}
	if found < 10 {
		t.Error("too few masks with a Bound of two pixels and more:", found)
	}
}

// coherentMasks are those of six rows whose columns are little like each other.
func coherentMasks(s *numbers) []api.Mask {
	masks := []api.Mask{far(), far(), far(), farther(), farther()}
	for range 200 {
		m := s.mask(6, 2)
		for range 60 {
			longer := besides(m, s.mask(6, 1))
			if c, e := mask.Coherence(longer); e == api.OK && 9*c.N < c.D && len(longer[0]) <= 10 {
				m = longer
			}
		}
		masks = append(masks, m)
	}
	return masks
}

func isTwins(m api.Mask, k, limit int, a, b []int) bool {
	for _, x := range [][]int{a, b} {
		if len(x) != len(m[0]) || len(support(x)) > k || slices.ContainsFunc(x, func(n int) bool { return n < -limit || n > limit }) {
			return false
		}
	}
	return !slices.Equal(a, b) && slices.Equal(readOf(m, a), readOf(m, b))
}

func TestTwins(t *testing.T) {
	for _, c := range []struct {
		m     api.Mask
		least int
	}{
		{two(), 2}, {api.Mask{{0}}, 1}, {api.Mask{{1, 0}}, 1}, {full(6, 10, 0), 1}, {full(6, 10, 1), 1}, {twice(), 1}, {api.Mask{{1, 0, 0}, {0, 1, -1}}, 1}, {besides(units(4), full(4, 1, 1)), 3}, {besides(units(5), full(5, 1, 1)), 3}, {besides(units(6), full(6, 1, -1)), 4}, {far(), 4},
		{units(1), 11}, {units(6), 11}, {steep(), 11}, {api.Mask{{1}, {0}}, 11},
	} {
		for k := 1; k <= api.MaxPixels; k++ {
			a, b, e := sparse.Twins(c.m, k)
			if k < c.least && (len(a) != 0 || len(b) != 0 || e != api.ErrNone) {
				t.Error("Twins", c.m, k, a, b, e)
			}
			if k >= c.least && (e != api.OK || !isTwins(c.m, k, 160, a, b)) {
				t.Error("Twins", c.m, k, a, b, e)
			}
		}
	}
}

func TestErrorsOfTwins(t *testing.T) {
	for _, k := range []int{0, -1, 11, math.MaxInt, math.MinInt} {
		for _, m := range []api.Mask{two(), units(2)} {
			if a, b, e := sparse.Twins(m, k); len(a) != 0 || len(b) != 0 || e != api.ErrRange {
				t.Error("Twins", m, k, a, b, e)
			}
		}
		if sparse.IsTwins(two(), k, []int{0, 1, 0}, []int{1, 0, 1}) {
			t.Error("IsTwins with up to", k)
		}
	}
	for _, m := range wrongMasks() {
		for _, k := range []int{0, 1, 10, 11} {
			if a, b, e := sparse.Twins(m, k); len(a) != 0 || len(b) != 0 || e != api.ErrInvalid {
				t.Error("Twins", m, k, a, b, e)
			}
			if sparse.IsTwins(m, k, []int{0}, []int{1}) || sparse.IsTwins(m, k, nil, nil) {
				t.Error("IsTwins", m, k)
			}
		}
	}
}

// P4.3 and P4.6.
func TestTwinsOfAnyMask(t *testing.T) {
	for _, m := range masks() {
		sure, _ := sparse.Sure(m)
		_, none := lin.Spark(m)
		for k := 1; k <= api.MaxPixels; k++ {
			a, b, e := sparse.Twins(m, k)
			if k <= sure || none == api.ErrNone {
				if len(a) != 0 || len(b) != 0 || e != api.ErrNone {
					t.Fatal("Twins within Sure", m, k, sure, a, b, e)
				}
				continue
			}
			if e != api.OK || !isTwins(m, k, 160, a, b) || !sparse.IsTwins(m, k, a, b) || !sparse.IsTwins(m, k, b, a) {
				t.Fatal("Twins beyond Sure", m, k, sure, a, b, e)
			}
		}
	}
}

func TestIsTwins(t *testing.T) {
	for _, c := range []struct {
		m    api.Mask
		k    int
		a, b []int
		want bool
	}{
		{two(), 2, []int{0, 1, 0}, []int{1, 0, 1}, true}, {two(), 2, []int{1, 0, 1}, []int{0, 1, 0}, true}, {two(), 10, []int{0, 1, 0}, []int{1, 0, 1}, true}, {two(), 3, []int{1, -1, 1}, []int{0, 0, 0}, true}, {two(), 2, []int{1, 0, 0}, []int{0, 1, -1}, true}, {two(), 3, []int{5, 1, 5}, []int{4, 2, 4}, true},
		// Too many pixels in one of them.
		{two(), 1, []int{0, 1, 0}, []int{1, 0, 1}, false}, {two(), 1, []int{1, 0, 1}, []int{0, 1, 0}, false}, {two(), 2, []int{1, -1, 1}, []int{0, 0, 0}, false}, {two(), 2, []int{0, 0, 0}, []int{1, -1, 1}, false},
		// Other readings, in one row and in the other.
		{two(), 2, []int{0, 1, 0}, []int{1, 0, 0}, false}, {two(), 2, []int{0, 1, 0}, []int{0, 0, 1}, false}, {two(), 2, []int{0, 1, 0}, []int{-1, 0, -1}, false},
		{two(), 2, []int{0, 1, 0}, []int{0, 1, 0}, false}, {two(), 2, []int{0, 0, 0}, []int{0, 0, 0}, false},
		{two(), 2, []int{0, 1}, []int{1, 0, 1}, false}, {two(), 2, []int{0, 1, 0}, []int{1, 0, 1, 0}, false}, {two(), 2, nil, []int{1, 0, 1}, false}, {two(), 2, []int{0, 1, 0}, nil, false}, {two(), 2, nil, nil, false}, {full(1, 1, 0), 1, nil, []int{0}, false}, {full(1, 2, 0), 1, []int{1}, []int{0, 1}, false},
		// The readings may be beyond MaxValue, the numbers not.
		{two(), 2, []int{0, top, 0}, []int{top, 0, top}, true}, {two(), 2, []int{0, top + 1, 0}, []int{top + 1, 0, top + 1}, false}, {full(1, 4, 1), 2, []int{top, top, 0, 0}, []int{0, 0, top, top}, true}, {full(1, 4, -1), 2, []int{-top, -top, 0, 0}, []int{0, 0, -top, -top}, true}, {full(1, 2, 0), 1, []int{top + 1, 0}, []int{0, 0}, false}, {full(1, 2, 0), 1, []int{0, 0}, []int{0, -top - 1}, false}, {full(1, 2, 0), 1, []int{math.MinInt, 0}, []int{math.MaxInt, 0}, false},
		{api.Mask{{0}}, 1, []int{0}, []int{5}, true}, {api.Mask{{0}}, 1, []int{-5}, []int{5}, true}, {api.Mask{{1}}, 1, []int{0}, []int{5}, false},
	} {
		if is := sparse.IsTwins(c.m, c.k, c.a, c.b); is != c.want {
			t.Error("IsTwins", c.m, c.k, c.a, c.b, is)
		}
	}
	for _, m := range smallMasks() {
		if len(m[0]) > 2 {
			continue
		}
		for _, a := range lists(len(m[0]), 2) {
			for _, b := range lists(len(m[0]), 2) {
				for k := 1; k <= 2; k++ {
					if is := sparse.IsTwins(m, k, a, b); is != isTwins(m, k, top, a, b) {
						t.Fatal("IsTwins", m, k, a, b, is)
					}
				}
			}
		}
	}
}
