package lin_test

import (
	"math"
	"math/big"
	"slices"
	"testing"

	"lightsieve/api"
	"lightsieve/lin"
)

func ratio(n, d int) api.Ratio {
	return api.Ratio{N: n, D: d}
}

func common(a, b int) int {
	for b != 0 {
		a, b = b, a%b
	}
	return a
}

func lowest(n, d int) api.Ratio {
	c := common(max(n, -n), d)
	return ratio(n/c, d/c)
}

func bigRatio(r api.Ratio) *big.Rat {
	return big.NewRat(int64(r.N), int64(r.D))
}

// validRatio is asked of each fraction that the package answers.
func validRatio(r api.Ratio) bool {
	return r.D >= 1 && r.D <= 400 && r.N >= -10000000000 && r.N <= 10000000000 && lowest(r.N, r.D) == r
}

// sums are a mask's readings of valid fractions.
func sums(m api.Mask, x []api.Ratio) []*big.Rat {
	all := make([]*big.Rat, len(m))
	for i := range m {
		all[i] = new(big.Rat)
		for j, r := range x {
			all[i].Add(all[i], new(big.Rat).Mul(bigRatio(r), big.NewRat(int64(m[i][j]), 1)))
		}
	}
	return all
}

// made asks whether fractions are a picture that makes a reading.
func made(m api.Mask, x []api.Ratio, y []int) bool {
	if len(x) != len(m[0]) || slices.ContainsFunc(x, func(r api.Ratio) bool { return !validRatio(r) }) {
		return false
	}
	for i, sum := range sums(m, x) {
		if sum.Cmp(big.NewRat(int64(y[i]), 1)) != 0 {
			return false
		}
	}
	return true
}

func TestMakes(t *testing.T) {
	two := api.Mask{{1, 1, 0}, {0, 1, 1}}
	ten := filled(10, 1)
	for _, c := range []struct {
		m    api.Mask
		x    []api.Ratio
		y    []int
		want bool
	}{
		{two, []api.Ratio{{N: 5, D: 1}, {N: 2, D: 1}, {N: 9, D: 1}}, []int{7, 11}, true},
		{two, []api.Ratio{{N: 5, D: 1}, {N: 2, D: 1}, {N: 9, D: 1}}, []int{7, 10}, false},
		{two, []api.Ratio{{N: 5, D: 1}, {N: 2, D: 1}, {N: 9, D: 1}}, []int{8, 11}, false},
		{two, []api.Ratio{{N: 1, D: 2}, {N: 1, D: 2}, {N: -1, D: 2}}, []int{1, 0}, true},
		{two, []api.Ratio{{N: 1, D: 2}, {N: 1, D: 3}, {N: 2, D: 3}}, []int{1, 1}, false},
		{two, []api.Ratio{{N: 0, D: 1}, {N: 0, D: 1}, {N: 0, D: 1}}, []int{0, 0}, true},
		{api.Mask{{0}}, []api.Ratio{{N: 1, D: 7}}, []int{0}, true},
		{api.Mask{{-1}}, []api.Ratio{{N: top, D: 1}}, []int{-top}, true},
		{api.Mask{{1, 1}}, []api.Ratio{{N: 10000000000, D: 1}, {N: -9999000000, D: 1}}, []int{top}, true},
		{api.Mask{{1, 1}}, []api.Ratio{{N: 9999999999, D: 400}, {N: -9999999599, D: 400}}, []int{1}, true},
		{api.Mask{{1, 1}}, []api.Ratio{{N: 9999999999, D: 400}, {N: -9999999999, D: 400}}, []int{0}, true},
		{api.Mask{{1, -1}}, []api.Ratio{{N: 9999999999, D: 400}, {N: 9999999999, D: 400}}, []int{0}, true},
		{api.Mask{{1, 1}}, []api.Ratio{{N: 9999999999, D: 400}, {N: -9999999999, D: 399}}, []int{0}, false},
		{api.Mask{ten}, slices.Repeat([]api.Ratio{{N: 1, D: 10}}, 10), []int{1}, true},
		// The common denominators of these are beyond 64 bits, and powers of two.
		{api.Mask{ten}, slices.Repeat([]api.Ratio{{N: 1, D: 256}}, 10), []int{0}, false},
		{api.Mask{ten}, slices.Repeat([]api.Ratio{{N: 1, D: 256}}, 10), []int{5}, false},
		{api.Mask{ten}, append(slices.Repeat([]api.Ratio{{N: 1, D: 256}}, 9), ratio(247, 256)), []int{1}, true},
	} {
		if got := lin.Makes(c.m, c.x, c.y); got != c.want || got != made(c.m, c.x, c.y) {
			t.Error("Makes", c.m, c.x, c.y, got)
		}
	}
}

// Five fractions with different denominators, and their opposites, nearly.
func TestMakesWithGreatDenominators(t *testing.T) {
	var s numbers
	for range 2000 {
		row := s.list(10, 1)
		x := make([]api.Ratio, 10)
		sum := s.below(2001) - 1000
		for j := range 5 {
			d := 300 + s.below(101)
			x[j] = lowest(s.below(20000000001)-10000000000, d)
			row[j+5] = row[j]
			x[j+5] = ratio(-x[j].N, x[j].D)
		}
		if row[0] != 0 {
			x[5] = lowest(-x[0].N+row[0]*sum*x[0].D, x[0].D)
		} else {
			sum = 0
		}
		check := func(x []api.Ratio, y int) {
			t.Helper()
			want := made(api.Mask{row}, x, []int{y})
			if got := lin.Makes(api.Mask{row}, x, []int{y}); got != want {
				t.Fatal("Makes", row, x, y, got)
			}
		}
		check(x, sum)
		check(x, sum+1)
		for j, r := range x {
			other := slices.Clone(x)
			other[j] = lowest(r.N+1, r.D)
			check(other, sum)
			other[j] = lowest(r.N, r.D%400+1)
			check(other, sum)
		}
	}
}

// The opposites of all fractions stand behind them, but for whole numbers.
func TestMakesForSeveralRows(t *testing.T) {
	var s numbers
	for rows := 1; rows <= 6; rows++ {
		for pixels := 1; pixels <= 5; pixels++ {
			m := s.mask(rows, pixels)
			m = besides(m, m)
			x, whole := make([]api.Ratio, 2*pixels), s.list(pixels, 1000)
			for j := range pixels {
				x[j] = lowest(s.below(2001)-1000, 1+s.below(400))
				x[j+pixels] = lowest(whole[j]*x[j].D-x[j].N, x[j].D)
			}
			y := readOf(m, append(whole, filled(pixels, 0)...))
			if !made(m, x, y) || !lin.Makes(m, x, y) {
				t.Fatal("Makes", m, x, y)
			}
			for i := range y {
				other := slices.Clone(y)
				other[i]++
				if lin.Makes(m, x, other) {
					t.Fatal("Makes", m, x, other)
				}
			}
		}
	}
}

func TestMakesOfWrongArguments(t *testing.T) {
	for _, r := range []api.Ratio{
		{}, {N: 0, D: 2}, {N: 0, D: 400}, {N: 0, D: -1}, {N: 1, D: 0}, {N: 1, D: -1}, {N: 2, D: 2}, {N: 2, D: 4}, {N: -2, D: 4}, {N: 300, D: 400}, {N: -5, D: 5},
		{N: 1, D: 401}, {N: 1, D: 1 << 32}, {N: 1, D: math.MaxInt}, {N: 1, D: math.MinInt}, {N: 401, D: 401}, {N: 0, D: math.MinInt}, {N: 0, D: math.MaxInt},
		{N: 10000000001, D: 1}, {N: -10000000001, D: 1}, {N: 10000000001, D: 400}, {N: math.MaxInt, D: 1}, {N: math.MinInt, D: 1}, {N: math.MinInt, D: math.MinInt}, {N: math.MaxInt, D: math.MaxInt},
	} {
		for j := range 3 {
			x := []api.Ratio{{N: 0, D: 1}, {N: 0, D: 1}, {N: 0, D: 1}}
			x[j] = r
			for _, y := range []int{0, 1, -1} {
				if lin.Makes(api.Mask{{0, 0, 0}}, x, []int{y}) || lin.Makes(api.Mask{{1, 1, 1}}, x, []int{y}) {
					t.Error("Makes of a fraction that is not valid", x)
				}
			}
		}
	}
	nought := slices.Repeat([]api.Ratio{{N: 0, D: 1}}, 12)
	for pixels := 1; pixels <= 10; pixels++ {
		for length := range 13 {
			if got := lin.Makes(full(2, pixels, 1), nought[:length], []int{0, 0}); got != (length == pixels) {
				t.Error("Makes of", length, "fractions for", pixels, got)
			}
		}
	}
	for _, c := range wrongReadings() {
		if lin.Makes(full(2, 3, 0), nought[:3], c.y) {
			t.Error("Makes", c.y)
		}
	}
	// Sums that are right, but no readings.
	if lin.Makes(api.Mask{{1}}, []api.Ratio{{N: top + 1, D: 1}}, []int{top + 1}) || lin.Makes(api.Mask{{-1}}, []api.Ratio{{N: top + 1, D: 1}}, []int{-top - 1}) {
		t.Error("Makes of more than a reading")
	}
	for _, m := range wrongMasks() {
		pixels := 0
		if len(m) > 0 {
			pixels = min(len(m[0]), 12)
		}
		if lin.Makes(m, nought[:pixels], filled(len(m), 0)) || lin.Makes(m, nil, nil) {
			t.Error("Makes", m)
		}
	}
}

func TestCompare(t *testing.T) {
	for _, c := range []struct {
		a, b api.Ratio
		want int
	}{
		{ratio(1, 2), ratio(1, 3), 1}, {ratio(1, 3), ratio(1, 2), -1}, {ratio(1, 2), ratio(2, 4), 0}, {ratio(-1, 2), ratio(1, 3), -1}, {ratio(-1, 2), ratio(-1, 3), -1},
		{ratio(0, 1), ratio(0, 7), 0}, {ratio(3, 0), ratio(3, 1), 0}, {ratio(3, -5), ratio(3, 1), 0}, {ratio(3, -5), ratio(4, -1), -1}, {ratio(1, -1), ratio(0, 1), 1}, {api.Ratio{}, ratio(0, 1), 0},
		{ratio(math.MaxInt, math.MaxInt-1), ratio(math.MaxInt-1, math.MaxInt-2), -1}, {ratio(math.MaxInt-1, math.MaxInt), ratio(math.MaxInt-2, math.MaxInt-1), 1},
		{ratio(math.MaxInt, math.MaxInt), ratio(1, 1), 0}, {ratio(math.MinInt, math.MaxInt), ratio(-1, 1), -1}, {ratio(math.MinInt, 1), ratio(math.MaxInt, 1), -1}, {ratio(math.MaxInt, 1), ratio(math.MinInt, 1), 1},
		{ratio(math.MinInt, math.MinInt), ratio(math.MinInt, 1), 0}, {ratio(math.MaxInt, 1), ratio(1, math.MaxInt), 1}, {ratio(math.MinInt, 1), ratio(-1, math.MaxInt), -1},
		// Their products differ by a multiple of 2^64.
		{ratio(1<<32, 1), ratio(0, 1<<32), 1}, {ratio(1<<62, 1), ratio(1<<60, 1<<2), 1}, {ratio(1<<62, 1<<62), ratio(1, 1), 0},
	} {
		if got := lin.Compare(c.a, c.b); got != c.want {
			t.Error("Compare", c.a, c.b, got)
		}
	}
}

func TestCompareAtTheEnds(t *testing.T) {
	var some []api.Ratio
	for _, n := range []int{math.MinInt, math.MinInt + 1, math.MinInt / 2, -1 << 32, -10000000000, -7, -2, -1, 0, 1, 2, 3, 400, 10000000000, 1 << 32, 1<<32 + 1, 1 << 62, math.MaxInt - 1, math.MaxInt} {
		for _, d := range []int{math.MinInt, -3, -1, 0, 1, 2, 3, 399, 400, 1 << 32, 1 << 62, math.MaxInt - 1, math.MaxInt} {
			some = append(some, ratio(n, d))
		}
	}
	counted := func(r api.Ratio) *big.Rat {
		return bigRatio(ratio(r.N, max(r.D, 1)))
	}
	for _, a := range some {
		for _, b := range some {
			if got := lin.Compare(a, b); got != counted(a).Cmp(counted(b)) {
				t.Error("Compare", a, b, got)
			}
		}
	}
}
