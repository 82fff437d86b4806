package sparse_test

import (
	"math/big"
	"slices"
	"testing"

	"lightsieve/api"
	"lightsieve/lin"
	"lightsieve/sparse"
)

// uneven has one column whose square is four times that of the others.
func uneven() api.Mask {
	return api.Mask{{1, 1, 0, 0, 0}, {1, 0, 1, 0, 0}, {1, 0, 0, 1, 0}, {1, 0, 0, 0, 1}}
}

func TestRest(t *testing.T) {
	for _, c := range []struct {
		m         api.Mask
		y, pixels []int
		want      []api.Ratio
	}{
		{two(), []int{3, 2}, nil, wholes(3, 2)}, {two(), []int{3, 2}, []int{}, wholes(3, 2)}, {two(), []int{3, 2}, []int{0}, wholes(0, 2)}, {two(), []int{3, 2}, []int{1}, []api.Ratio{{N: 1, D: 2}, {N: -1, D: 2}}}, {two(), []int{4, 2}, []int{1}, wholes(1, -1)}, {two(), []int{3, 2}, []int{0, 2}, wholes(0, 0)},
		// Columns that depend on each other: all three, equal ones, and those of zeros.
		{two(), []int{3, 2}, []int{0, 1, 2}, wholes(0, 0)}, {api.Mask{{1, 1, 0}, {1, 1, 0}}, []int{3, 0}, []int{0, 1, 2}, []api.Ratio{{N: 3, D: 2}, {N: -3, D: 2}}}, {api.Mask{{0, 1}, {0, 1}}, []int{3, 0}, []int{0}, wholes(3, 0)}, {api.Mask{{0, 1}, {0, 1}}, []int{3, 0}, []int{0, 1}, []api.Ratio{{N: 3, D: 2}, {N: -3, D: 2}}}, {full(6, 10, 1), []int{1, 0, 0, 0, 0, 0}, upTo(10), []api.Ratio{{N: 5, D: 6}, {N: -1, D: 6}, {N: -1, D: 6}, {N: -1, D: 6}, {N: -1, D: 6}, {N: -1, D: 6}}},
		{api.Mask{{1, 1, 1}, {0, 0, 1}, {0, 0, 0}}, []int{7, 8, 9}, []int{0, 1, 2}, wholes(0, 0, 9)},
		{two(), []int{0, 0}, []int{1}, wholes(0, 0)}, {two(), []int{0, 0}, nil, wholes(0, 0)}, {twice(), []int{top, -top}, []int{0}, wholes(top, -top)},
		{api.Mask{{1, 1}, {1, 0}, {1, 1}}, []int{1, 0, 0}, []int{0}, []api.Ratio{{N: 2, D: 3}, {N: -1, D: 3}, {N: -1, D: 3}}}, {api.Mask{{1, 1}, {1, 0}, {1, 1}}, []int{1, 0, 0}, []int{0, 1}, []api.Ratio{{N: 1, D: 2}, {N: 0, D: 1}, {N: -1, D: 2}}},
	} {
		if l, e := sparse.Rest(c.m, c.y, c.pixels); e != api.OK || !slices.Equal(l, c.want) {
			t.Error("Rest", c.m, c.y, c.pixels, l, e)
		}
	}
}

func bigDot(column []int, rest []api.Ratio) *big.Rat {
	sum := new(big.Rat)
	for i, n := range column {
		sum.Add(sum, new(big.Rat).Mul(bigRatio(rest[i]), big.NewRat(int64(n), 1)))
	}
	return sum
}

func bigSquare(rest []api.Ratio) *big.Rat {
	sum := new(big.Rat)
	for _, r := range rest {
		sum.Add(sum, new(big.Rat).Mul(bigRatio(r), bigRatio(r)))
	}
	return sum
}

// differs asks whether a rest differs from the reading by a sum of multiples of columns: both times the common denominator, which is found to be small.
func differs(m api.Mask, y, pixels []int, rest []api.Ratio) bool {
	common := 1
	for _, r := range rest {
		common = common / int(new(big.Int).GCD(nil, nil, big.NewInt(int64(common)), big.NewInt(int64(r.D))).Int64()) * r.D
	}
	difference := make([]int, len(y))
	for i, r := range rest {
		difference[i] = common*y[i] - common/r.D*r.N
	}
	return rankOf(columnsOf(m, pixels, difference)) > rankOf(columnsOf(m, pixels))
}

// P4.5: the rest is what the chapter says it is, and a further column makes it no greater.
func TestRestOfAnyColumns(t *testing.T) {
	var s numbers
	for _, m := range masks() {
		for _, y := range readings(&s, m) {
			pixels := s.subset(len(m[0]))
			rest := checkRest(t, m, y, pixels)
			if len(pixels) == 0 {
				continue
			}
			at := s.below(len(pixels))
			fewer := slices.Delete(slices.Clone(pixels), at, at+1)
			if before := checkRest(t, m, y, fewer); bigSquare(rest).Cmp(bigSquare(before)) > 0 {
				t.Fatal("Rest is greater with one column more", m, y, fewer, before, pixels, rest)
			}
		}
	}
}

func checkRest(t *testing.T, m api.Mask, y, pixels []int) []api.Ratio {
	t.Helper()
	rest, e := sparse.Rest(m, y, pixels)
	if e != api.OK || len(rest) != len(m) {
		t.Fatal("Rest", m, y, pixels, rest, e)
	}
	for _, r := range rest {
		if !lowest(r, 1000000000000000000) {
			t.Fatal("Rest with no fraction in lowest terms", m, y, pixels, rest)
		}
	}
	for _, j := range pixels {
		if bigDot(columnOf(m, j), rest).Sign() != 0 {
			t.Fatal("Rest has a product with a column", m, y, pixels, rest, j)
		}
	}
	if differs(m, y, pixels, rest) {
		t.Fatal("Rest differs by more than the columns", m, y, pixels, rest)
	}
	checkNext(t, m, y, pixels, rest)
	return rest
}

// nextOf compares the quotients as fractions of any size, where the rest is not 0.
func nextOf(m api.Mask, rest []api.Ratio) (pixel int, e api.Errno) {
	greatest := new(big.Rat)
	e = api.ErrState
	for j := range m[0] {
		column := columnOf(m, j)
		length := dot(column, column)
		if length == 0 {
			continue
		}
		p := bigDot(column, rest)
		quotient := new(big.Rat).Quo(new(big.Rat).Mul(p, p), big.NewRat(int64(length), 1))
		if quotient.Cmp(greatest) > 0 {
			pixel, e, greatest = j, api.OK, quotient
		}
	}
	return pixel, e
}

func checkNext(t *testing.T, m api.Mask, y, pixels []int, rest []api.Ratio) {
	t.Helper()
	want, told := nextOf(m, rest)
	if bigSquare(rest).Sign() == 0 {
		want, told = 0, api.ErrNone
	}
	if pixel, e := sparse.Next(m, y, pixels); pixel != want || e != told {
		t.Fatal("Next", m, y, pixels, pixel, e, "and not", want, told)
	}
}

func TestNext(t *testing.T) {
	for _, c := range []struct {
		m         api.Mask
		y, pixels []int
		want      int
		e         api.Errno
	}{
		{two(), []int{3, 2}, nil, 1, api.OK}, {two(), []int{3, 2}, []int{1}, 0, api.OK}, {two(), []int{3, 0}, nil, 0, api.OK}, {two(), []int{0, -3}, nil, 2, api.OK}, {two(), []int{-3, -3}, nil, 1, api.OK}, {two(), []int{3, -3}, nil, 0, api.OK},
		{two(), []int{0, 0}, nil, 0, api.ErrNone}, {two(), []int{3, 3}, []int{1}, 0, api.ErrNone}, {two(), []int{3, 2}, []int{0, 2}, 0, api.ErrNone}, {two(), []int{3, 2}, []int{0, 1, 2}, 0, api.ErrNone},
		{twice(), []int{1, 2}, nil, 0, api.OK}, {twice(), []int{1, 2}, []int{0}, 0, api.ErrState}, {twice(), []int{1, -1}, nil, 0, api.ErrState}, {twice(), []int{1, 1}, []int{0}, 0, api.ErrNone}, {twice(), []int{1, 2}, []int{0, 1}, 0, api.ErrState},
		// Columns of zeros alone, and one of them ahead of others.
		{full(6, 10, 0), filled(6, 1), nil, 0, api.ErrState}, {full(6, 10, 0), filled(6, 0), nil, 0, api.ErrNone}, {full(6, 10, 0), filled(6, 1), upTo(10), 0, api.ErrState}, {api.Mask{{0, 0, 1}}, []int{5}, nil, 2, api.OK}, {api.Mask{{0, 0, 1}}, []int{5}, []int{0}, 2, api.OK}, {api.Mask{{0, 0, 1}, {0, 0, 0}}, []int{0, 5}, nil, 0, api.ErrState},
		// Of several columns with the same quotient the first one.
		{api.Mask{{0, 1, -1, 1}}, []int{5}, nil, 1, api.OK}, {units(6), filled(6, -1), nil, 0, api.OK}, {units(6), filled(6, 1), []int{0, 2}, 1, api.OK},
		// The lengths count: 4 * 4 / 4 and 2 * 2 / 1, then 1 more or less, and the same with the long column last.
		{uneven(), []int{2, 2, 0, 0}, nil, 0, api.OK}, {uneven(), []int{3, 2, 0, 0}, nil, 1, api.OK}, {uneven(), []int{2, 2, 1, 0}, nil, 0, api.OK}, {uneven(), []int{0, 0, 2, -3}, nil, 4, api.OK},
		{api.Mask{{1, 0, 1}, {0, 1, 1}, {0, 0, 1}, {0, 0, 1}}, []int{2, 2, 0, 0}, nil, 0, api.OK}, {api.Mask{{1, 0, 1}, {0, 1, 1}, {0, 0, 1}, {0, 0, 1}}, []int{2, 2, 1, 0}, nil, 2, api.OK},
	} {
		if pixel, e := sparse.Next(c.m, c.y, c.pixels); pixel != c.want || e != c.e {
			t.Error("Next", c.m, c.y, c.pixels, pixel, e)
		}
	}
}

// The two greatest quotients are so much alike that floats of 64 bits do not tell them apart.
func TestNextIsExact(t *testing.T) {
	like := api.Mask{{1, 0, 0, -1, 1, 1}, {1, -1, 0, 0, 1, 1}, {-1, -1, -1, -1, -1, 0}, {-1, -1, 0, -1, 1, -1}, {1, -1, -1, -1, 0, 0}, {-1, 1, -1, 1, 1, 1}}
	for _, c := range []struct {
		m         api.Mask
		pixels, y []int
		want      int
	}{
		{like, []int{2, 4, 5}, []int{-553247, 952421, -479138, 463306, 950140, -920725}, 1},
		{like, []int{2, 4, 5}, []int{919319, 13023, 68404, -352082, 990765, -727190}, 3},
		{api.Mask{{1, 0, -1, 1, 1, 0}, {0, 1, -1, 0, -1, -1}, {-1, -1, 0, 1, 1, 1}, {-1, -1, 0, -1, -1, -1}, {-1, -1, -1, 0, -1, 1}, {-1, -1, 0, -1, 1, 0}}, []int{0, 2, 3}, []int{404170, -902696, 786943, -808195, 989215, 988461}, 5},
		{api.Mask{{0, 1, 1, 0, 1, 1}, {-1, 1, -1, -1, 1, 0}, {-1, 1, -1, 0, 0, 0}, {1, -1, -1, 0, 1, -1}, {-1, -1, 1, -1, 0, 1}, {-1, -1, -1, 1, 1, -1}}, []int{0, 3, 5}, []int{927511, 706432, 343539, 981819, -951059, -381110}, 4},
		{api.Mask{{1, 1, 1, 0, -1, -1}, {-1, 0, 1, 0, -1, 0}, {-1, 1, -1, 0, 0, 1}, {-1, 0, -1, 1, 1, -1}, {1, -1, -1, 0, 1, 1}, {0, -1, -1, 1, 0, 1}}, []int{1, 4, 5}, []int{-309712, -725944, -362816, -691147, 767502, -348185}, 3},
		{api.Mask{{1, 1, -1, 1, 0, 0}, {-1, 1, 0, -1, -1, 0}, {-1, 0, 0, -1, -1, 1}, {1, 0, -1, 0, 0, -1}, {1, 1, -1, -1, -1, 1}, {-1, -1, -1, -1, 0, 1}}, []int{1, 2, 3}, []int{-446650, -289101, -946258, 564710, 215790, -578018}, 5},
		{api.Mask{{1, 1, 1, 1, 1, -1}, {1, 0, -1, -1, 0, 1}, {-1, 1, -1, 0, 0, 1}, {0, -1, 1, -1, 1, 1}, {1, 1, 0, 1, 0, 0}, {1, 1, 1, 1, -1, 0}}, []int{0, 2, 5}, []int{-411537, -792357, 870362, 249704, -233073, 963395}, 4},
	} {
		if pixel, e := sparse.Next(c.m, c.y, c.pixels); pixel != c.want || e != api.OK {
			t.Error("Next", c.m, c.y, c.pixels, pixel, e)
		}
		checkRest(t, c.m, c.y, c.pixels)
	}
}

// After three or four long columns the squares of the products are beyond 64 bits.
func TestNextWithGreatNumbers(t *testing.T) {
	var s numbers
	for range 400 {
		m := s.mask(6, 10)
		for i := range m {
			for j := range 5 {
				m[i][j] = 2*s.below(2) - 1
			}
		}
		y := s.list(6, 1)
		for i := range y {
			y[i] = y[i]*top - s.below(1000)*y[i]
		}
		checkRest(t, m, y, []int{0, 1, 2})
		checkRest(t, m, y, []int{0, 1, 3, 4})
	}
}

func TestPursuit(t *testing.T) {
	for _, c := range []struct {
		m      api.Mask
		y      []int
		pixels []int
		f      api.Fit
	}{
		{two(), []int{1, 1}, []int{1}, fit([]int{1}, ratio(1, 1))}, {two(), []int{3, 2}, []int{1, 0}, fit([]int{0, 1}, wholes(1, 2)...)}, {two(), []int{2, 3}, []int{1, 0}, fit([]int{0, 1}, wholes(-1, 3)...)}, {two(), []int{1, -1}, []int{0, 2}, fit([]int{0, 2}, wholes(1, -1)...)}, {two(), []int{0, 0}, nil, api.Fit{}},
		{full(6, 10, 0), filled(6, 0), nil, api.Fit{}}, {full(6, 10, -1), filled(6, top), []int{0}, fit([]int{0}, ratio(-top, 1))}, {units(6), []int{1, 5, -3, 2, 4, -6}, []int{5, 1, 4, 2, 3, 0}, fit(upTo(6), wholes(1, 5, -3, 2, 4, -6)...)}, {api.Mask{{0, 0, 1}}, []int{5}, []int{2}, fit([]int{2}, ratio(5, 1))}, {twice(), []int{4, 4}, []int{0}, fit([]int{0}, ratio(4, 1))},
		{api.Mask{{1, 1}, {1, -1}}, []int{2, 1}, []int{0, 1}, fit([]int{0, 1}, ratio(3, 2), ratio(1, 2))},
		// A column that was chosen, and whose value is 0 at last: the first, the second, and among four.
		{api.Mask{{-1, -1, 0}, {1, 0, -1}, {1, 1, -1}}, []int{0, -2, 0}, []int{2, 1, 0}, fit([]int{0, 1}, wholes(-2, 2)...)},
		{api.Mask{{0, -1, 0}, {0, -1, 1}, {1, 1, 0}}, []int{-3, -3, -2}, []int{2, 0, 1}, fit([]int{0, 1}, wholes(-5, 3)...)},
		{api.Mask{{1, -1, -1}, {0, 1, -1}, {-1, 1, 0}}, []int{-2, -4, -2}, []int{2, 1, 0}, fit([]int{0, 2}, wholes(2, 4)...)},
		{api.Mask{{1, 1, -1, 0}, {1, 1, 0, -1}, {-1, 0, 0, -1}}, []int{4, 3, 3}, []int{1, 3, 2}, fit([]int{2, 3}, wholes(-4, -3)...)},
	} {
		if l, e := sparse.Pursuit(c.m, c.y); e != api.OK || !slices.Equal(l, c.pixels) {
			t.Error("Pursuit", c.m, c.y, l, e)
		}
		if f, e := sparse.Greedy(c.m, c.y); e != api.OK || !equalFits(f, c.f) {
			t.Error("Greedy", c.m, c.y, f, e)
		}
	}
}

// P4.5: the pursuit goes on as Next tells, with at most as many columns as the rank, and is lost just with impossible readings.
func TestPursuitOfAnyReading(t *testing.T) {
	var s numbers
	for _, m := range masks() {
		for _, y := range readings(&s, m) {
			if rankOf(columnsOf(m, upTo(len(m[0])), y)) > rankOf(m) {
				checkNoPursuit(t, m, y, api.ErrState)
				continue
			}
			checkPursuit(t, m, y)
		}
	}
}

func checkPursuit(t *testing.T, m api.Mask, y []int) {
	t.Helper()
	chosen, e := sparse.Pursuit(m, y)
	rank, _ := lin.Rank(m)
	if e != api.OK || len(chosen) > rank || rankOf(columnsOf(m, chosen)) != len(chosen) {
		t.Fatal("Pursuit", m, y, chosen, e)
	}
	for i := range len(chosen) + 1 {
		want, told := 0, api.ErrNone
		if i < len(chosen) {
			want, told = chosen[i], api.OK
		}
		if pixel, e := sparse.Next(m, y, slices.Sorted(slices.Values(chosen[:i]))); pixel != want || e != told {
			t.Fatal("Pursuit", m, y, chosen, "and after", i, "of them", pixel, e)
		}
	}
	f, e := sparse.Greedy(m, y)
	if e != api.OK || !made(m, y, f) || !slices.IsSorted(f.Pixels) {
		t.Fatal("Greedy", m, y, f, e)
	}
	for _, j := range f.Pixels {
		if !slices.Contains(chosen, j) {
			t.Fatal("Greedy with a column that was not chosen", m, y, f, chosen)
		}
	}
}
