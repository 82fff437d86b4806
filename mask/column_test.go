package mask_test

import (
	"math"
	"math/big"
	"slices"
	"testing"

	"lightsieve/api"
	"lightsieve/mask"
)

func columnOf(m api.Mask, j int) []int {
	var numbers []int
	for _, row := range m {
		numbers = append(numbers, row[j])
	}
	return numbers
}

func isZeros(l []int) bool {
	return dot(l, l) == 0
}

// likenessOf is nil if a column has only zeros.
func likenessOf(m api.Mask, i, j int) *big.Rat {
	a, b := columnOf(m, i), columnOf(m, j)
	if isZeros(a) || isZeros(b) {
		return nil
	}
	p := int64(dot(a, b))
	return big.NewRat(p*p, int64(dot(a, a)*dot(b, b)))
}

// isRat asks a fraction for its lowest terms, too: those of big.Rat are.
func isRat(r api.Ratio, want *big.Rat) bool {
	return int64(r.N) == want.Num().Int64() && int64(r.D) == want.Denom().Int64()
}

func coherenceOf(m api.Mask) *big.Rat {
	var greatest *big.Rat
	for i := range m[0] {
		for j := range i {
			r := likenessOf(m, i, j)
			if r == nil {
				return nil
			}
			if greatest == nil || greatest.Cmp(r) < 0 {
				greatest = r
			}
		}
	}
	return greatest
}

func alikeOf(m api.Mask) [][2]int {
	var found [][2]int
	for i := range m[0] {
		for j := range m[0] {
			a, b := columnOf(m, i), columnOf(m, j)
			if i < j && (slices.Equal(a, b) || slices.Equal(a, turned(b))) {
				found = append(found, [2]int{i, j})
			}
		}
	}
	return found
}

func columnMasks() []api.Mask {
	return append(masks(), smallMasks()...)
}

func TestColumn(t *testing.T) {
	if l, e := mask.Column(api.Mask{{1, -1, 0}, {0, 1, 1}}, 1); e != api.OK || !slices.Equal(l, []int{-1, 1}) {
		t.Error("Column", l, e)
	}
	for _, m := range columnMasks() {
		for j := range m[0] {
			if l, e := mask.Column(m, j); e != api.OK || !slices.Equal(l, columnOf(m, j)) {
				t.Fatal("Column", m, j, l, e)
			}
		}
	}
}

func TestProductAndLikeness(t *testing.T) {
	for _, m := range columnMasks() {
		for i := range m[0] {
			for j := range m[0] {
				if n, e := mask.Product(m, i, j); e != api.OK || n != dot(columnOf(m, i), columnOf(m, j)) {
					t.Fatal("Product", m, i, j, n, e)
				}
				r, e := mask.Likeness(m, i, j)
				if want := likenessOf(m, i, j); want == nil {
					if r != (api.Ratio{}) || e != api.ErrNone {
						t.Fatal("Likeness of zeros", m, i, j, r, e)
					}
				} else if e != api.OK || !isRat(r, want) {
					t.Fatal("Likeness", m, i, j, r, e, want)
				}
			}
		}
	}
}

func TestLikenessInLowestTerms(t *testing.T) {
	m := api.Mask{
		{1, 1, 1, 0, -1, 1},
		{1, 0, 1, 0, -1, 1},
		{0, 0, 1, 0, 0, 1},
		{0, 0, 0, 1, 0, 1},
	}
	for _, c := range []struct {
		i, j int
		r    api.Ratio
	}{
		{0, 1, api.Ratio{N: 1, D: 2}}, {1, 0, api.Ratio{N: 1, D: 2}}, {0, 2, api.Ratio{N: 2, D: 3}}, {0, 3, api.Ratio{N: 0, D: 1}}, {3, 2, api.Ratio{N: 0, D: 1}},
		{0, 4, api.Ratio{N: 1, D: 1}}, {0, 0, api.Ratio{N: 1, D: 1}}, {4, 4, api.Ratio{N: 1, D: 1}}, {1, 2, api.Ratio{N: 1, D: 3}}, {2, 5, api.Ratio{N: 3, D: 4}}, {4, 5, api.Ratio{N: 1, D: 2}}, {5, 3, api.Ratio{N: 1, D: 4}},
	} {
		if r, e := mask.Likeness(m, c.i, c.j); r != c.r || e != api.OK {
			t.Error("Likeness", c.i, c.j, r, e)
		}
	}
}

func TestErrorsOfColumns(t *testing.T) {
	check := func(m api.Mask, i, j int, want api.Errno) {
		t.Helper()
		if n, e := mask.Product(m, i, j); n != 0 || e != want {
			t.Error("Product", m, i, j, n, e)
		}
		if r, e := mask.Likeness(m, i, j); r != (api.Ratio{}) || e != want {
			t.Error("Likeness", m, i, j, r, e)
		}
	}
	for _, m := range []api.Mask{{{1}}, {{0}}, {{1, 0, -1}}, full(6, 10, 1), full(6, 3, 0)} {
		for _, wrong := range []int{-1, len(m[0]), len(m[0]) + 1, math.MinInt, math.MaxInt} {
			if l, e := mask.Column(m, wrong); len(l) != 0 || e != api.ErrName {
				t.Error("Column", m, wrong, l, e)
			}
			check(m, wrong, 0, api.ErrName)
			check(m, 0, wrong, api.ErrName)
			check(m, wrong, wrong, api.ErrName)
		}
	}
	for _, m := range wrongMasks() {
		for _, j := range []int{0, -1, 20} {
			if l, e := mask.Column(m, j); len(l) != 0 || e != api.ErrInvalid {
				t.Error("Column", m, j, l, e)
			}
			check(m, 0, j, api.ErrInvalid)
			check(m, j, 0, api.ErrInvalid)
		}
		if r, e := mask.Coherence(m); r != (api.Ratio{}) || e != api.ErrInvalid {
			t.Error("Coherence", m, r, e)
		}
		if l, e := mask.Alike(m); len(l) != 0 || e != api.ErrInvalid {
			t.Error("Alike", m, l, e)
		}
	}
}

func TestCoherence(t *testing.T) {
	for _, m := range columnMasks() {
		r, e := mask.Coherence(m)
		if want := coherenceOf(m); want == nil {
			if r != (api.Ratio{}) || e != api.ErrNone {
				t.Fatal("Coherence", m, r, e)
			}
		} else if e != api.OK || !isRat(r, want) {
			t.Fatal("Coherence", m, r, e, want)
		}
	}
	for _, c := range []struct {
		m api.Mask
		r api.Ratio
		e api.Errno
	}{
		{api.Mask{{1, 1}, {1, 0}}, api.Ratio{N: 1, D: 2}, api.OK},
		{api.Mask{{1, 1, 0}, {0, 1, 1}}, api.Ratio{N: 1, D: 2}, api.OK},
		{api.Mask{{1, 0}, {0, 1}}, api.Ratio{N: 0, D: 1}, api.OK},
		{api.Mask{{1, -1}, {-1, 1}}, api.Ratio{N: 1, D: 1}, api.OK},
		{api.Mask{{1}}, api.Ratio{}, api.ErrNone},
		{api.Mask{{1}, {-1}}, api.Ratio{}, api.ErrNone},
		{api.Mask{{0}}, api.Ratio{}, api.ErrNone},
		{api.Mask{{0, 0}}, api.Ratio{}, api.ErrNone},
		{api.Mask{{0, 1, 1}}, api.Ratio{}, api.ErrNone},
		{api.Mask{{1, 1, 0}}, api.Ratio{}, api.ErrNone},
	} {
		if r, e := mask.Coherence(c.m); r != c.r || e != c.e {
			t.Error("Coherence", c.m, r, e)
		}
	}
}

func TestAlike(t *testing.T) {
	for _, m := range columnMasks() {
		if l, e := mask.Alike(m); e != api.OK || !slices.Equal(l, alikeOf(m)) {
			t.Fatal("Alike", m, l, e)
		}
	}
	for _, c := range []struct {
		m     api.Mask
		pairs [][2]int
	}{
		{api.Mask{{1}}, nil},
		{api.Mask{{0}}, nil},
		{api.Mask{{1, 0}}, nil},
		{api.Mask{{1, -1, 0, 1, 0}}, [][2]int{{0, 1}, {0, 3}, {1, 3}, {2, 4}}},
		{api.Mask{{1, -1, 1}, {1, -1, -1}}, [][2]int{{0, 1}}},
		{api.Mask{{0, 1, 0, -1}, {1, 0, -1, 0}}, [][2]int{{0, 2}, {1, 3}}},
		{full(6, 3, 0), [][2]int{{0, 1}, {0, 2}, {1, 2}}},
	} {
		if l, e := mask.Alike(c.m); e != api.OK || !slices.Equal(l, c.pairs) {
			t.Error("Alike", c.m, l, e)
		}
	}
}

// P2.4: masks with a coherence have one of 1 just if two columns are alike.
func TestCoherenceOfAlike(t *testing.T) {
	seen := map[bool]int{}
	for _, m := range columnMasks() {
		r, e := mask.Coherence(m)
		if e != api.OK {
			continue
		}
		l, _ := mask.Alike(m)
		one := r == api.Ratio{N: 1, D: 1}
		if one != (len(l) > 0) {
			t.Fatal("Coherence", m, r, "with alike columns", l)
		}
		seen[one]++
	}
	if seen[true] == 0 || seen[false] == 0 {
		t.Error("masks of one kind alone", seen)
	}
}
