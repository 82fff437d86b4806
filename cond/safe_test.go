package cond_test

import (
	"math"
	"slices"
	"testing"

	"lightsieve/api"
	"lightsieve/cond"
	"lightsieve/dual"
	"lightsieve/lin"
	"lightsieve/mask"
	"lightsieve/sparse"
)

func TestSafe(t *testing.T) {
	for _, c := range []struct {
		m      api.Mask
		pixels []int
		want   bool
	}{
		{two(), nil, true}, {two(), []int{}, true}, {two(), []int{0}, true}, {two(), []int{1}, true}, {two(), []int{2}, true}, {two(), []int{0, 1}, false}, {two(), []int{0, 2}, false}, {two(), []int{0, 1, 2}, false},
		// Just one half is not safe.
		{twice(), []int{0}, false}, {twice(), nil, true}, {ring(3), []int{0}, true}, {ring(3), []int{0, 3}, false}, {ring(3), []int{1, 2}, false}, {ring(4), []int{0, 4}, true}, {ring(4), []int{1, 2}, true}, {ring(4), []int{0, 1, 2}, false}, {ring(5), []int{1, 3, 5}, false}, {api.Mask{{1, 1, 1}, {1, -1, 0}}, []int{0}, true}, {api.Mask{{1, 1, 1}, {1, -1, 0}}, []int{2}, false}, {api.Mask{{1, 1, 1}, {1, -1, 0}}, []int{0, 1}, false},
		{api.Mask{{0}}, nil, true}, {api.Mask{{0}}, []int{0}, false}, {api.Mask{{1, 0}}, []int{0}, true}, {api.Mask{{1, 0}}, []int{1}, false}, {full(6, 10, 0), nil, true},
		{units(1), []int{0}, true}, {half(), []int{0, 1}, true}, {steep(), upTo(6), true}, {units(6), []int{2, 5}, true},
	} {
		if is, e := cond.Safe(c.m, c.pixels); is != c.want || e != api.OK {
			t.Error("Safe", c.m, c.pixels, is, e)
		}
	}
}

func TestOrder(t *testing.T) {
	for _, c := range []struct {
		m    api.Mask
		want int
	}{
		{two(), 1}, {twice(), 0}, {line(), 0}, {half(), 2}, {units(1), 1}, {units(6), 6}, {steep(), 6}, {api.Mask{{0}}, 0}, {api.Mask{{-1}}, 1}, {api.Mask{{1, 0}}, 0}, {full(6, 10, 0), 0}, {full(1, 10, 1), 0}, {full(6, 1, -1), 1},
		{ring(1), 0}, {ring(2), 1}, {ring(3), 1}, {ring(4), 2}, {ring(5), 2}, {ring(6), 3}, {besides(ring(6), full(6, 1, 0)), 0}, {api.Mask{{1, 1, 1}, {1, -1, 0}}, 0}, {api.Mask{{1, 0}, {1, 1}, {0, 1}}, 2},
	} {
		if k, e := cond.Order(c.m); k != c.want || e != api.OK {
			t.Error("Order", c.m, k, e)
		}
	}
}

func TestSafePicture(t *testing.T) {
	for _, c := range []struct {
		m    api.Mask
		x, h []int
	}{
		{two(), []int{0, 0, 0}, nil}, {two(), []int{1, 0, 0}, nil}, {two(), []int{0, -9, 0}, nil}, {two(), []int{1, 1, 0}, nil}, {two(), []int{-2, -1, 0}, nil}, {two(), []int{1, 0, -1}, nil}, {two(), []int{0, 5, 7}, nil},
		{two(), []int{1, 0, 1}, []int{1, -1, 1}}, {two(), []int{-1, 0, -4}, []int{1, -1, 1}}, {two(), []int{1, -1, 0}, []int{1, -1, 1}}, {two(), []int{0, -1, 1}, []int{1, -1, 1}}, {two(), []int{1, 1, 1}, []int{1, -1, 1}}, {two(), []int{-3, 2, 1}, []int{1, -1, 1}},
		// Just as much as elsewhere.
		{twice(), []int{0, 0}, nil}, {twice(), []int{1, 0}, []int{1, -1}}, {twice(), []int{0, -1}, []int{1, -1}}, {twice(), []int{1, 1}, []int{1, -1}}, {twice(), []int{1, -1}, []int{1, -1}}, {ring(3), []int{1, 1, 0, 0}, []int{1, 1, 1, -1}}, {ring(3), []int{1, -1, 0, 0}, nil}, {ring(3), []int{1, 0, 0, 1}, nil}, {ring(3), []int{1, 0, 0, -1}, []int{1, 1, 1, -1}}, {ring(3), []int{3, -2, -1, 0}, []int{1, 1, 1, -1}}, {ring(3), []int{3, -2, -1, 5}, []int{1, 1, 1, -1}},
		// The first of several circuits.
		{line(), []int{0, 0, 1, 0}, []int{0, 0, 1, 0}}, {line(), []int{1, 0, 0, 0}, []int{1, 1, 0, 0}}, {line(), []int{0, 0, 0, 1}, []int{1, 0, 0, -1}}, {line(), []int{0, 1, -1, 0}, []int{0, 0, 1, 0}}, {full(1, 4, 1), []int{0, 1, 0, 0}, []int{1, -1, 0, 0}}, {full(1, 4, 1), []int{0, 0, 1, 0}, []int{1, 0, -1, 0}}, {full(1, 4, 1), []int{0, 0, 0, 1}, []int{1, 0, 0, -1}}, {full(1, 4, 1), []int{1, 1, 1, 1}, []int{1, -1, 0, 0}}, {api.Mask{{1, 0, -1, 1}, {-1, -1, 0, 1}}, []int{0, 1, 0, 0}, []int{1, -2, 0, -1}}, {api.Mask{{1, 0, -1, 1}, {-1, -1, 0, 1}}, []int{0, 0, 1, 0}, []int{1, 0, 2, 1}},
		{api.Mask{{0}}, []int{0}, nil}, {api.Mask{{0}}, []int{-1}, []int{1}}, {api.Mask{{1, 0}}, []int{5, 0}, nil}, {api.Mask{{1, 0}}, []int{0, 2}, []int{0, 1}}, {full(6, 10, 0), filled(10, 0), nil}, {full(6, 10, 0), filled(10, 3), []int{1, 0, 0, 0, 0, 0, 0, 0, 0, 0}},
		{half(), []int{1, 2}, nil}, {units(6), []int{1, -2, 3, -4, 5, -top}, nil}, {steep(), filled(6, -1), nil},
		// Their readings may be beyond MaxValue.
		{two(), []int{top, 1, 0}, nil}, {two(), []int{-top, -top, 0}, nil}, {two(), filled(3, top), []int{1, -1, 1}}, {two(), filled(3, -top), []int{1, -1, 1}}, {half(), []int{top, top}, nil}, {full(1, 10, 1), filled(10, top), []int{1, -1, 0, 0, 0, 0, 0, 0, 0, 0}},
	} {
		h, e := cond.Against(c.m, c.x)
		if !slices.Equal(h, c.h) || (e == api.OK) != (c.h != nil) || e != api.OK && e != api.ErrNone {
			t.Error("Against", c.m, c.x, h, e)
		}
		if is, e := cond.SafePicture(c.m, c.x); is != (c.h == nil) || e != api.OK {
			t.Error("SafePicture", c.m, c.x, is, e)
		}
		if k := len(c.x); cond.IsBad(c.m, k, c.x) != (c.h != nil) {
			t.Error("IsBad", c.m, k, c.x)
		}
	}
}

// step tells whether a step along a vector, so small that no pixel that is not 0 turns its sign, does not make the norm greater.
func step(h, x []int) bool {
	far := times(1000, x)
	return norm(plus(far, h)) <= norm(far) || norm(plus(far, times(-1, h))) <= norm(far)
}

func firstStep(circuits [][]int, x []int) []int {
	for _, h := range circuits {
		if step(h, x) {
			return h
		}
	}
	return nil
}

func checkPicture(t *testing.T, m api.Mask, circuits [][]int, x []int) {
	t.Helper()
	want := firstStep(circuits, x)
	h, e := cond.Against(m, x)
	if !slices.Equal(h, want) || (e == api.OK) != (want != nil) || e != api.OK && e != api.ErrNone {
		t.Fatal("Against", m, x, h, e)
	}
	safe, e := cond.SafePicture(m, x)
	if safe != (want == nil) || e != api.OK {
		t.Fatal("SafePicture", m, x, safe, e)
	}
	// P6.3.
	if y, _ := mask.Read(m, x); lin.Reading(m, y) {
		if is, e := dual.Finds(m, x); is != safe || e != api.OK {
			t.Fatal("Finds", m, x, is, e)
		}
	}
	for _, k := range []int{0, lit(x) - 1, lit(x), len(x), len(x) + 1} {
		want := !safe && k >= 1 && k <= len(x) && lit(x) <= k
		if cond.IsBad(m, k, x) != want {
			t.Fatal("IsBad", m, k, x)
		}
	}
}

func TestPicturesOfAnyMask(t *testing.T) {
	var s numbers
	for _, m := range smallMasks() {
		circuits, _ := lin.Circuits(m)
		pictures := [][]int{s.list(len(m[0]), 3), s.list(len(m[0]), top), s.dots(len(m[0]), 2, top)}
		if len(m[0]) <= 3 {
			pictures = lists(len(m[0]), 1)
		}
		for _, x := range pictures {
			checkPicture(t, m, circuits, x)
		}
	}
	for _, m := range largeMasks() {
		circuits, _ := lin.Circuits(m)
		for k := range 7 {
			checkPicture(t, m, circuits, s.dots(len(m[0]), k, 5))
			checkPicture(t, m, circuits, s.dots(len(m[0]), k, top))
		}
	}
}

// P6.3: what is on safe pixels is safe; on others some picture is not, with the signs of a circuit.
func TestPicturesOnSafePixels(t *testing.T) {
	var s numbers
	safe, unsafe := 0, 0
	for _, m := range largeMasks() {
		for range 6 {
			k := s.below(len(m[0]) + 1)
			pixels := slices.Sorted(slices.Values(s.order(len(m[0]))[:k]))
			is, e := cond.Safe(m, pixels)
			if e != api.OK {
				t.Fatal("Safe", m, pixels, e)
			}
			if is {
				safe++
				checkSafeOn(t, m, pixels, &s)
			} else {
				unsafe++
				checkUnsafeOn(t, m, pixels)
			}
		}
	}
	if safe < 200 || unsafe < 200 {
		t.Error("too few sets:", safe, unsafe)
	}
}

func checkSafeOn(t *testing.T, m api.Mask, pixels []int, s *numbers) {
	t.Helper()
	for range 10 {
		x := filled(len(m[0]), 0)
		for _, j := range pixels {
			x[j] = s.below(2001) - 1000
		}
		is, e := cond.SafePicture(m, x)
		found, f := dual.Finds(m, x)
		if !is || !found || e != api.OK || f != api.OK {
			t.Fatal("on the safe pixels", pixels, "of", m, "is", x, is, found)
		}
	}
}

func checkUnsafeOn(t *testing.T, m api.Mask, pixels []int) {
	t.Helper()
	circuits, _ := lin.Circuits(m)
	for _, h := range circuits {
		x := filled(len(h), 0)
		for _, j := range pixels {
			x[j] = h[j]
		}
		if is, _ := cond.SafePicture(m, x); !is {
			return
		}
	}
	t.Fatal("on the pixels", pixels, "of", m, "all signs of circuits are safe")
}

func TestBad(t *testing.T) {
	for _, c := range []struct {
		m     api.Mask
		order int
	}{
		{two(), 1}, {twice(), 0}, {line(), 0}, {half(), 2}, {units(1), 1}, {units(6), 6}, {steep(), 6}, {api.Mask{{0}}, 0}, {api.Mask{{1, 0}}, 0}, {full(6, 10, 0), 0}, {full(1, 10, 1), 0}, {ring(2), 1}, {ring(3), 1}, {ring(4), 2}, {ring(5), 2}, {ring(6), 3}, {far(), 2},
	} {
		if k, _ := cond.Order(c.m); k != c.order {
			t.Error("Order", c.m, k)
		}
		checkBad(t, c.m, c.order)
	}
}

// checkBad asks for bad pictures of each number of pixels: up to the order there are none.
func checkBad(t *testing.T, m api.Mask, order int) {
	t.Helper()
	for k := 1; k <= len(m[0]); k++ {
		x, e := cond.Bad(m, k)
		if k <= order {
			if len(x) != 0 || e != api.ErrNone {
				t.Fatal("Bad up to the order", m, k, x, e)
			}
			continue
		}
		if e != api.OK || len(x) != len(m[0]) || lit(x) > k || slices.Max(x) > 160 || slices.Min(x) < -160 || !cond.IsBad(m, k, x) {
			t.Fatal("Bad beyond the order", m, k, x, e)
		}
		if is, e := dual.Finds(m, x); is || e != api.OK {
			t.Fatal("Bad is found", m, k, x, is, e)
		}
	}
}

func TestIsBad(t *testing.T) {
	for _, c := range []struct {
		m    api.Mask
		k    int
		x    []int
		want bool
	}{
		{two(), 2, []int{1, 0, 1}, true}, {two(), 3, []int{1, 0, 1}, true}, {two(), 2, []int{161, 0, 1}, true}, {two(), 2, []int{-top, top, 0}, true}, {two(), 3, filled(3, top), true}, {twice(), 1, []int{0, -top}, true}, {twice(), 2, []int{0, 1}, true}, {api.Mask{{0}}, 1, []int{1}, true},
		{two(), 1, []int{1, 0, 1}, false}, {two(), 2, []int{1, 1, 1}, false}, {two(), 2, []int{1, 0, -1}, false}, {two(), 1, []int{1, 0, 0}, false}, {two(), 3, []int{0, 0, 0}, false}, {twice(), 1, []int{1, 1}, false}, {half(), 2, []int{1, 1}, false}, {units(1), 1, []int{1}, false},
		// Wrong arguments.
		{two(), 0, []int{1, 0, 1}, false}, {two(), -1, []int{1, 0, 1}, false}, {two(), 4, []int{1, 0, 1}, false}, {two(), 10, []int{1, 0, 1}, false}, {two(), math.MaxInt, []int{1, 0, 1}, false}, {two(), math.MinInt, []int{1, 0, 1}, false}, {two(), 2, []int{1, 0}, false}, {two(), 2, []int{1, 0, 1, 0}, false}, {two(), 2, nil, false}, {two(), 0, []int{0, 0, 0}, false},
		{two(), 2, []int{top + 1, 0, 1}, false}, {two(), 2, []int{1, 0, -top - 1}, false}, {two(), 2, []int{math.MaxInt, 0, math.MaxInt}, false}, {two(), 2, []int{math.MinInt, 0, -1}, false},
	} {
		if cond.IsBad(c.m, c.k, c.x) != c.want {
			t.Error("IsBad", c.m, c.k, c.x)
		}
	}
}

func TestUnsafe(t *testing.T) {
	for _, c := range []struct {
		m    api.Mask
		k    int
		want [][]int
	}{
		{two(), 0, nil}, {two(), 1, nil}, {two(), 2, [][]int{{0, 1}, {0, 2}, {1, 2}}}, {two(), 3, [][]int{{0, 1, 2}}}, {twice(), 0, nil}, {twice(), 1, [][]int{{0}, {1}}}, {twice(), 2, [][]int{{0, 1}}},
		{api.Mask{{0}}, 0, nil}, {api.Mask{{0}}, 1, [][]int{{0}}}, {api.Mask{{1, 0, 1}, {1, 0, -1}}, 1, [][]int{{1}}}, {api.Mask{{1, 0, 1}, {1, 0, -1}}, 2, [][]int{{0, 1}, {1, 2}}}, {api.Mask{{1, 1, 1}, {1, -1, 0}}, 1, [][]int{{2}}}, {full(6, 10, 0), 0, nil}, {full(6, 10, 0), 10, [][]int{upTo(10)}},
		{half(), 0, nil}, {half(), 2, nil}, {units(6), 6, nil}, {ring(3), 1, nil}, {ring(3), 3, [][]int{{0, 1, 2}, {0, 1, 3}, {0, 2, 3}, {1, 2, 3}}},
	} {
		if l, e := cond.Unsafe(c.m, c.k); !equalLists(l, c.want) || e != api.OK {
			t.Error("Unsafe", c.m, c.k, l, e)
		}
	}
}

func TestBlind(t *testing.T) {
	for _, c := range []struct {
		m    api.Mask
		want []int
	}{
		{two(), nil}, {twice(), []int{0, 1}}, {line(), []int{0, 1, 2, 3}}, {half(), nil}, {api.Mask{{0}}, []int{0}}, {api.Mask{{1}}, nil}, {api.Mask{{1, 0}}, []int{1}}, {api.Mask{{0, 1, 0}}, []int{0, 2}}, {full(6, 10, 0), upTo(10)}, {full(1, 10, -1), upTo(10)}, {steep(), nil}, {ring(6), nil},
		{api.Mask{{1, 1, 1}, {1, -1, 0}}, []int{2}}, {api.Mask{{1, 1, 0}, {0, 0, 1}}, []int{0, 1}}, {api.Mask{{1, 0, -1, 1}, {-1, -1, 0, 1}}, []int{1, 2}},
	} {
		if l, e := cond.Blind(c.m); !slices.Equal(l, c.want) || e != api.OK {
			t.Error("Blind", c.m, l, e)
		}
	}
}

// checkSets holds Order, Unsafe, Blind and Bad against the shares of all sets of pixels.
func checkSets(t *testing.T, m api.Mask) {
	t.Helper()
	n := len(m[0])
	vectors := hiddenBy(m)
	unsafe := make([][][]int, n+1)
	var blind []int
	for _, set := range subsets(n) {
		if !greatestOf(vectors, set).isHalf() {
			continue
		}
		unsafe[len(set)] = append(unsafe[len(set)], set)
		if len(set) == 1 {
			blind = append(blind, set[0])
		}
	}
	order := slices.IndexFunc(unsafe, func(sets [][]int) bool { return len(sets) > 0 }) - 1
	if order < 0 {
		order = n
	}
	if k, e := cond.Order(m); k != order || e != api.OK {
		t.Fatal("Order", m, k, e)
	}
	for k, want := range unsafe {
		if l, e := cond.Unsafe(m, k); !equalLists(l, want) || e != api.OK {
			t.Fatal("Unsafe", m, k, l, e)
		}
	}
	if l, e := cond.Blind(m); !slices.Equal(l, blind) || e != api.OK {
		t.Fatal("Blind", m, l, e)
	}
	checkBad(t, m, order)
}

func TestSetsOfAnyMask(t *testing.T) {
	for _, m := range smallMasks() {
		checkSets(t, m)
	}
	for i, m := range largeMasks() {
		if len(m[0]) < 8 || i%3 == 1 {
			checkSets(t, m)
		}
	}
}

// P6.4, of masks whose order is above 0 as of others.
func TestOrderOfAnyMask(t *testing.T) {
	var s numbers
	above := 0
	for _, m := range append(masks(), evenMasks(&s)...) {
		order, e := cond.Order(m)
		sure, f := sparse.Sure(m)
		if e != api.OK || f != api.OK || order > sure {
			t.Fatal("Order", m, order, sure)
		}
		if order > 0 && order < len(m[0]) {
			above++
		}
		if bound, e := sparse.Bound(m); e == api.OK && even(m) && bound > order {
			t.Fatal("Bound", m, bound, order)
		}
		for k := 1; k <= order; k++ {
			if x, e := dual.Missed(m, k); e != api.ErrNone {
				t.Fatal("Missed up to the order", m, k, x, e)
			}
		}
		if order < len(m[0]) {
			if x, e := dual.Missed(m, order+1); e != api.OK {
				t.Fatal("Missed beyond the order", m, order+1, x, e)
			}
		}
	}
	if above < 100 {
		t.Error("too few masks with an order:", above)
	}
}

// even tells whether all columns have equally many numbers that are not 0.
func even(m api.Mask) bool {
	weight := func(j int) int {
		column, _ := mask.Column(m, j)
		return lit(column)
	}
	for j := range m[0] {
		if weight(j) != weight(0) {
			return false
		}
	}
	return true
}

// evenMasks have columns with equally many numbers that are not 0, which are little like each other.
func evenMasks(s *numbers) []api.Mask {
	var all []api.Mask
	for range 100 {
		weight, least := 2+s.below(3), 3+s.below(2)
		m := make(api.Mask, 6)
		for range 300 {
			column := s.list(6, 1)
			longer := make(api.Mask, 6)
			for i := range longer {
				longer[i] = append(slices.Clone(m[i]), column[i])
			}
			if lit(column) != weight || len(longer[0]) > 10 {
				continue
			}
			likeness, e := mask.Coherence(longer)
			if len(longer[0]) == 1 || e == api.OK && likeness.N*least < likeness.D {
				m = longer
			}
		}
		if len(m[0]) > 0 {
			all = append(all, m)
		}
	}
	return all
}

// P6.5.
func TestOrderOfChangedMasks(t *testing.T) {
	var s numbers
	for _, m := range masks() {
		order, _ := cond.Order(m)
		permuted, e := mask.Permuted(m, s.order(len(m[0])))
		if k, f := cond.Order(permuted); k != order || e != api.OK || f != api.OK {
			t.Fatal("Order of a permuted mask", m, permuted, k, order)
		}
		signed, e := mask.Signed(m, slices.DeleteFunc(upTo(len(m[0])), func(int) bool { return s.below(2) == 0 }))
		if k, f := cond.Order(signed); k != order || e != api.OK || f != api.OK {
			t.Fatal("Order of a signed mask", m, signed, k, order)
		}
		longer, e := mask.Stacked(m, s.mask(1, len(m[0])))
		if k, _ := cond.Order(longer); e == api.OK && k < order {
			t.Fatal("Order with a further row", longer, k, order)
		}
	}
}
