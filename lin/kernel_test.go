package lin_test

import (
	"math"
	"slices"
	"testing"

	"lightsieve/api"
	"lightsieve/lin"
)

func two() api.Mask {
	return api.Mask{{1, 1, 0}, {0, 1, 1}}
}

func TestRank(t *testing.T) {
	for _, c := range []struct {
		m    api.Mask
		want int
	}{
		{api.Mask{{0}}, 0}, {api.Mask{{1}}, 1}, {api.Mask{{-1}, {1}}, 1}, {two(), 2}, {full(6, 10, 0), 0}, {full(6, 10, 1), 1}, {steep(), 6},
		{api.Mask{{1, 1, 0}, {0, 1, 1}, {1, 0, -1}}, 2}, {api.Mask{{1, 1, 0}, {0, 1, 1}, {1, 0, 1}}, 3}, {api.Mask{{0, 0, 1}, {0, 1, 0}}, 2},
	} {
		if rank, e := lin.Rank(c.m); rank != c.want || e != api.OK {
			t.Error("Rank", c.m, rank, e)
		}
	}
	for _, m := range masks() {
		if rank, e := lin.Rank(m); rank != rankOf(m) || e != api.OK {
			t.Fatal("Rank", m, rank, e)
		}
	}
	for _, m := range wrongMasks() {
		if rank, e := lin.Rank(m); rank != 0 || e != api.ErrInvalid {
			t.Error("Rank", m, rank, e)
		}
	}
}

func TestIndependent(t *testing.T) {
	check := func(m api.Mask, pixels []int) {
		t.Helper()
		want := rankOf(columnsOf(m, pixels)) == len(pixels)
		if is, e := lin.Independent(m, pixels); is != want || e != api.OK {
			t.Fatal("Independent", m, pixels, is, e)
		}
	}
	var s numbers
	for _, m := range smallMasks() {
		check(m, nil)
		for _, pixels := range subsets(len(m[0])) {
			check(m, pixels)
		}
	}
	for _, m := range largeMasks() {
		for range 20 {
			check(m, s.subset(len(m[0])))
		}
	}
	if is, e := lin.Independent(two(), []int{0, 1, 2}); is || e != api.OK {
		t.Error("Independent of all three", is, e)
	}
	if is, e := lin.Independent(full(6, 10, 0), nil); !is || e != api.OK {
		t.Error("Independent of none", is, e)
	}
}

func TestErrorsOfIndependent(t *testing.T) {
	for _, c := range wrongPixels() {
		if is, e := lin.Independent(two(), c.pixels); is || e != c.e {
			t.Error("Independent", c.pixels, is, e)
		}
	}
	for _, m := range wrongMasks() {
		for _, pixels := range [][]int{nil, {0}, {1, 0}, {-1}, {100}} {
			if is, e := lin.Independent(m, pixels); is || e != api.ErrInvalid {
				t.Error("Independent", m, pixels, is, e)
			}
		}
	}
}

func TestSolve(t *testing.T) {
	for _, c := range []struct {
		m         api.Mask
		pixels, y []int
		want      []api.Ratio
		e         api.Errno
	}{
		{two(), []int{1}, []int{1, 1}, []api.Ratio{{N: 1, D: 1}}, api.OK},
		{two(), []int{0, 2}, []int{1, -1}, []api.Ratio{{N: 1, D: 1}, {N: -1, D: 1}}, api.OK},
		{two(), []int{0, 1}, []int{5, 5}, []api.Ratio{{N: 0, D: 1}, {N: 5, D: 1}}, api.OK},
		{two(), []int{0}, []int{1, 1}, nil, api.ErrNone},
		{two(), []int{0, 1, 2}, []int{1, 1}, nil, api.ErrMany},
		{two(), nil, []int{0, 0}, nil, api.OK}, {two(), []int{}, []int{0, 0}, nil, api.OK},
		{two(), nil, []int{0, 1}, nil, api.ErrNone}, {two(), nil, []int{-1, 0}, nil, api.ErrNone},
		{api.Mask{{1, 1}, {1, -1}}, []int{0, 1}, []int{1, 0}, []api.Ratio{{N: 1, D: 2}, {N: 1, D: 2}}, api.OK},
		{api.Mask{{1, 1}, {1, -1}}, []int{0, 1}, []int{-3, 2}, []api.Ratio{{N: -1, D: 2}, {N: -5, D: 2}}, api.OK},
		// Columns that depend on each other, without values and with some.
		{api.Mask{{1, 1}, {1, 1}}, []int{0, 1}, []int{1, 2}, nil, api.ErrNone},
		{api.Mask{{1, 1}, {1, 1}}, []int{0, 1}, []int{2, 2}, nil, api.ErrMany},
		{api.Mask{{0, 1}}, []int{0}, []int{0}, nil, api.ErrMany}, {api.Mask{{0, 1}}, []int{0}, []int{1}, nil, api.ErrNone}, {api.Mask{{0, 1}}, []int{0, 1}, []int{1}, nil, api.ErrMany},
	} {
		if values, e := lin.Solve(c.m, c.pixels, c.y); !slices.Equal(values, c.want) || e != c.e {
			t.Error("Solve", c.m, c.pixels, c.y, values, e)
		}
	}
}

func checkSolve(t *testing.T, m api.Mask, pixels, y []int) {
	t.Helper()
	rank := rankOf(columnsOf(m, pixels))
	want := api.OK
	if rank < len(pixels) {
		want = api.ErrMany
	}
	if rankOf(columnsOf(m, pixels, y)) > rank {
		want = api.ErrNone
	}
	values, e := lin.Solve(m, pixels, y)
	if e != want || e != api.OK && len(values) != 0 || e == api.OK && len(values) != len(pixels) {
		t.Fatal("Solve", m, pixels, y, values, e)
	}
	if e != api.OK {
		return
	}
	x := slices.Repeat([]api.Ratio{{N: 0, D: 1}}, len(m[0]))
	for k, j := range pixels {
		x[j] = values[k]
	}
	if !made(m, x, y) || !lin.Makes(m, x, y) {
		t.Fatal("Solve makes no reading", m, pixels, y, values)
	}
}

func TestSolveOfAnyColumns(t *testing.T) {
	var s numbers
	for _, m := range smallMasks() {
		for _, pixels := range subsets(len(m[0])) {
			checkSolve(t, m, pixels, s.list(len(m), 1))
			checkSolve(t, m, pixels, readOf(m, s.list(len(m[0]), 2)))
			checkSolve(t, m, pixels, s.list(len(m), top))
		}
	}
	for _, m := range largeMasks() {
		for _, y := range readings(&s, m) {
			checkSolve(t, m, s.subset(len(m[0])), y)
			checkSolve(t, m, upTo(len(m[0])), y)
		}
		// A reading that some columns alone can make.
		for range 10 {
			x, pixels := s.list(len(m[0]), top/10), s.subset(len(m[0]))
			for j := range x {
				if !slices.Contains(pixels, j) {
					x[j] = 0
				}
			}
			checkSolve(t, m, pixels, readOf(m, x))
		}
	}
}

func TestErrorsOfSolve(t *testing.T) {
	check := func(m api.Mask, pixels, y []int, want api.Errno) {
		t.Helper()
		if values, e := lin.Solve(m, pixels, y); len(values) != 0 || e != want {
			t.Error("Solve", m, pixels, y, values, e, "for the error", want)
		}
	}
	for _, c := range wrongReadings() {
		check(two(), []int{0, 1}, c.y, c.e)
		check(two(), nil, c.y, c.e)
		for _, p := range wrongPixels() {
			check(two(), p.pixels, c.y, c.e)
		}
	}
	for _, c := range wrongPixels() {
		check(two(), c.pixels, []int{0, 0}, c.e)
		check(two(), c.pixels, []int{1, 5}, c.e)
	}
	for _, m := range wrongMasks() {
		check(m, []int{0}, filled(len(m), 0), api.ErrInvalid)
		check(m, nil, nil, api.ErrInvalid)
		check(m, []int{1, 0}, []int{top + 1}, api.ErrInvalid)
	}
}

func TestKernel(t *testing.T) {
	for _, c := range []struct {
		m    api.Mask
		want [][]int
	}{
		{two(), [][]int{{1, -1, 1}}},
		{api.Mask{{1}}, nil}, {api.Mask{{1, 1}, {1, -1}}, nil}, {steep(), nil},
		{api.Mask{{0}}, [][]int{{1}}}, {api.Mask{{0, 0}, {0, 0}}, [][]int{{1, 0}, {0, 1}}},
		// Above 0 at the free pixel, also where the first number is below it.
		{api.Mask{{1, 1}}, [][]int{{-1, 1}}}, {api.Mask{{1, -1}}, [][]int{{1, 1}}}, {api.Mask{{-1, -1}}, [][]int{{-1, 1}}}, {api.Mask{{1, 1, 1}}, [][]int{{-1, 1, 0}, {-1, 0, 1}}},
		// A column of zeros as the first pixel, and as a later one.
		{api.Mask{{0, 1}}, [][]int{{1, 0}}}, {api.Mask{{1, 0}}, [][]int{{0, 1}}}, {api.Mask{{0, 1, 0, 1}}, [][]int{{1, 0, 0, 0}, {0, 0, 1, 0}, {0, -1, 0, 1}}},
		{api.Mask{{1, 1, 1}, {1, -1, 0}}, [][]int{{-1, -1, 2}}}, {api.Mask{{1, 1, 0}, {1, -1, 1}}, [][]int{{-1, 1, 2}}},
	} {
		if basis, e := lin.Kernel(c.m); e != api.OK || !equalLists(basis, c.want) {
			t.Error("Kernel", c.m, basis, e)
		}
	}
	for _, m := range wrongMasks() {
		if basis, e := lin.Kernel(m); len(basis) != 0 || e != api.ErrInvalid {
			t.Error("Kernel", m, basis, e)
		}
	}
}

// P3.2. A kernel vector is told by its numbers at the free pixels, so that no other list is as these are.
func TestKernelOfAnyMask(t *testing.T) {
	for _, m := range masks() {
		basis, e := lin.Kernel(m)
		free := freeOf(m)
		rank, _ := lin.Rank(m)
		if e != api.OK || len(basis) != len(free) || rank+len(basis) != len(m[0]) {
			t.Fatal("Kernel", m, basis, e)
		}
		for k, h := range basis {
			if len(h) != len(m[0]) || !zeros(readOf(m, h)) || !lin.IsKernel(m, h) {
				t.Fatal("no kernel vector", m, h)
			}
			for i, j := range free {
				if i == k && h[j] <= 0 || i != k && h[j] != 0 {
					t.Fatal("Kernel at the free pixels", m, h)
				}
			}
			if divisorOf(h) != 1 {
				t.Fatal("Kernel with a common divisor", m, h)
			}
		}
	}
}

func divisorOf(l []int) int {
	c := 0
	for _, n := range l {
		c = common(max(n, -n), c)
	}
	return c
}

func TestIsKernel(t *testing.T) {
	for _, c := range []struct {
		m    api.Mask
		h    []int
		want bool
	}{
		{two(), []int{1, -1, 1}, true}, {two(), []int{-1, 1, -1}, true}, {two(), []int{2, -2, 2}, true}, {two(), []int{top, -top, top}, true}, {two(), []int{-top, top, -top}, true},
		{two(), []int{0, 0, 0}, false}, {two(), []int{1, -1, 0}, false}, {two(), []int{0, 1, -1}, false}, {two(), []int{1, 1, 1}, false},
		{two(), []int{top + 1, -top - 1, top + 1}, false}, {two(), []int{-top - 1, top + 1, -top - 1}, false}, {two(), []int{math.MinInt, math.MinInt, math.MinInt}, false},
		{two(), nil, false}, {two(), []int{}, false}, {two(), []int{1, -1}, false}, {two(), []int{1, -1, 1, 0}, false}, {two(), filled(1000, 0), false},
		{api.Mask{{0}}, []int{5}, true}, {api.Mask{{0}}, []int{0}, false}, {api.Mask{{0}}, []int{top}, true}, {api.Mask{{0}}, []int{top + 1}, false}, {api.Mask{{0}}, []int{-top - 1}, false}, {api.Mask{{0}}, []int{math.MaxInt}, false}, {api.Mask{{1}}, []int{1}, false},
		{api.Mask{{1, 1}}, []int{1 << 62, 1 << 62}, false}, {api.Mask{{1, 1}}, []int{math.MinInt, math.MinInt}, false},
	} {
		if is := lin.IsKernel(c.m, c.h); is != c.want {
			t.Error("IsKernel", c.m, c.h, is)
		}
	}
	for _, m := range smallMasks() {
		for _, h := range lists(len(m[0]), 1) {
			if is := lin.IsKernel(m, h); is != (zeros(readOf(m, h)) && !zeros(h)) {
				t.Fatal("IsKernel", m, h, is)
			}
		}
	}
	for _, m := range wrongMasks() {
		if lin.IsKernel(m, nil) || lin.IsKernel(m, []int{1}) || lin.IsKernel(m, []int{1, -1}) || len(m) > 0 && lin.IsKernel(m, filled(len(m[0]), 1)) {
			t.Error("IsKernel", m)
		}
	}
}

func TestPrimitive(t *testing.T) {
	for _, c := range []struct {
		h    []int
		want bool
	}{
		{[]int{1}, true}, {[]int{-1}, false}, {[]int{2}, false}, {[]int{0}, false}, {nil, false}, {[]int{}, false}, {filled(1000, 0), false},
		{[]int{2, 3}, true}, {[]int{2, -3}, true}, {[]int{-2, 3}, false}, {[]int{2, 4}, false}, {[]int{-2, -3}, false}, {[]int{6, 10, 15}, true}, {[]int{6, 10, 14}, false}, {[]int{-6, 10, 15}, false},
		{[]int{0, 1}, true}, {[]int{0, 0, 1, -1}, true}, {[]int{0, -1, 1}, false}, {[]int{0, 2, 0}, false}, {[]int{1, 0}, true}, {[]int{0, 0, 5, 0, -7, 0}, true},
		{[]int{top, 1}, true}, {[]int{1, top}, true}, {[]int{1, -top}, true}, {[]int{top - 1, top}, true}, {[]int{top, -top + 1}, true}, {[]int{top, top}, false}, {[]int{top}, false}, {[]int{top, top - 2}, false},
		{[]int{top + 1, 1}, false}, {[]int{1, top + 1}, false}, {[]int{1, -top - 1}, false}, {[]int{1, math.MaxInt}, false}, {[]int{1, math.MinInt}, false}, {[]int{math.MinInt}, false}, {[]int{math.MaxInt, math.MinInt}, false},
		{append(filled(1000, 0), 1), true}, {append(filled(1000, 0), -1), false}, {append(filled(1000, 2), 1), true}, {append(filled(1000, 1), top+1), false},
	} {
		if is := lin.Primitive(c.h); is != c.want {
			t.Error("Primitive", len(c.h), c.h, is)
		}
	}
	for n := range 5 {
		for _, h := range lists(n, 4) {
			want := divisorOf(h) == 1 && h[support(h)[0]] > 0
			if is := lin.Primitive(h); is != want {
				t.Error("Primitive", h, is)
			}
		}
	}
}
