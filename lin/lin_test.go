package lin_test

import (
	"math"
	"slices"
	"testing"

	"lightsieve/api"
	"lightsieve/lin"
)

const top = api.MaxValue

func filled(n, value int) []int {
	return slices.Repeat([]int{value}, n)
}

// full is a mask with the same number everywhere.
func full(rows, pixels, value int) api.Mask {
	m := make(api.Mask, rows)
	for i := range m {
		m[i] = filled(pixels, value)
	}
	return m
}

func dot(a, b []int) int {
	sum := 0
	for i := range a {
		sum += a[i] * b[i]
	}
	return sum
}

// numbers is a fixed row of numbers that look like chance.
type numbers uint64

func (s *numbers) below(n int) int {
	*s = *s*6364136223846793005 + 1442695040888963407
	return int(uint64(*s)>>33) % n
}

func (s *numbers) list(n, limit int) []int {
	l := make([]int, n)
	for i := range l {
		l[i] = s.below(2*limit+1) - limit
	}
	return l
}

func (s *numbers) mask(rows, pixels int) api.Mask {
	m := make(api.Mask, rows)
	for i := range m {
		m[i] = s.list(pixels, 1)
	}
	return m
}

func (s *numbers) order(n int) []int {
	var l []int
	for i := range n {
		l = slices.Insert(l, s.below(i+1), i)
	}
	return l
}

// subset is some of the numbers below n, ascending, and maybe none.
func (s *numbers) subset(n int) []int {
	var l []int
	for i := range n {
		if s.below(2) == 0 {
			l = append(l, i)
		}
	}
	return l
}

// lists are all lists of n numbers from -limit to limit.
func lists(n, limit int) [][]int {
	all := [][]int{{}}
	for range n {
		var longer [][]int
		for _, l := range all {
			for value := -limit; value <= limit; value++ {
				longer = append(longer, append(slices.Clone(l), value))
			}
		}
		all = longer
	}
	return all
}

// subsets are all lists of numbers below n in strictly ascending order.
func subsets(n int) [][]int {
	all := [][]int{{}}
	for j := range n {
		for _, l := range slices.Clone(all) {
			all = append(all, append(slices.Clone(l), j))
		}
	}
	return all
}

// smallMasks are all masks of up to six numbers.
func smallMasks() []api.Mask {
	var masks []api.Mask
	for rows := 1; rows <= 6; rows++ {
		for pixels := 1; rows*pixels <= 6; pixels++ {
			for _, l := range lists(rows*pixels, 1) {
				var m api.Mask
				for row := range slices.Chunk(l, pixels) {
					m = append(m, row)
				}
				masks = append(masks, m)
			}
		}
	}
	return masks
}

// steep has the determinant 160, the greatest of a mask.
func steep() api.Mask {
	return api.Mask{
		{-1, 1, 1, 1, 1, 1}, {1, -1, 1, 1, 1, 1}, {1, 1, -1, 1, 1, 1},
		{-1, -1, -1, -1, 1, 1}, {-1, -1, -1, 1, -1, 1}, {-1, -1, -1, 1, 1, -1},
	}
}

// besides has the columns of a, and then those of b.
func besides(a, b api.Mask) api.Mask {
	m := make(api.Mask, len(a))
	for i := range m {
		m[i] = slices.Concat(a[i], b[i])
	}
	return m
}

// largeMasks are of each form, with columns and rows that depend on each other, with known pixels, and with great determinants.
func largeMasks() []api.Mask {
	var s numbers
	var masks []api.Mask
	for rows := 1; rows <= 6; rows++ {
		for pixels := 1; pixels <= 10; pixels++ {
			masks = append(masks, s.mask(rows, pixels), s.mask(rows, pixels), full(rows, pixels, s.below(3)-1))
			likeRows, likeColumns := s.mask(rows, pixels), s.mask(rows, pixels)
			likeRows[rows-1] = slices.Clone(likeRows[0])
			for i := range likeColumns {
				likeColumns[i][pixels-1] = -likeColumns[i][0]
			}
			masks = append(masks, likeRows, likeColumns)
		}
	}
	units := full(6, 4, 0)
	for j := range 4 {
		units[j+2][j] = 1
	}
	for range 10 {
		masks = append(masks, besides(steep(), s.mask(6, 1+s.below(4))), besides(s.mask(6, 4), steep()))
		masks = append(masks, besides(besides(s.mask(6, 2), full(6, 1, 0)), units))
	}
	return append(masks, steep(), besides(steep(), units), besides(units, steep()))
}

func masks() []api.Mask {
	return append(smallMasks(), largeMasks()...)
}

func wrongMasks() []api.Mask {
	return []api.Mask{
		nil, {}, {nil}, {{}}, {{}, {}}, {{1}, nil}, {nil, {1}}, {{1, 0}, {1}}, {{1}, {1, 0}},
		full(7, 1, 1), full(7, 11, 1), full(1, 11, 1), full(6, 11, 0), full(100, 100, 0),
		{{2}}, {{-2}}, {{1, 0}, {0, 2}}, {{3, 1}, {1, 1}}, {{math.MaxInt}}, {{math.MinInt}}, {{256}}, {{1 << 32}},
	}
}

const prime = 1<<31 - 1

func inverse(n int) int {
	result := 1
	for exponent := prime - 2; exponent > 0; exponent /= 2 {
		if exponent%2 == 1 {
			result = result * n % prime
		}
		n = n * n % prime
	}
	return result
}

// rankOf counts modulo a prime. No determinant of a mask with a reading as a further column is as great, so that this is the rank.
func rankOf(rows [][]int) int {
	var left [][]int
	for _, row := range rows {
		l := make([]int, len(row))
		for k, n := range row {
			l[k] = (n%prime + prime) % prime
		}
		left = append(left, l)
	}
	rank := 0
	for k := range rows[0] {
		at := slices.IndexFunc(left, func(row []int) bool { return row[k] != 0 })
		if at < 0 {
			continue
		}
		lead := left[at]
		left = slices.Delete(left, at, at+1)
		rank++
		for _, row := range left {
			times := row[k] * inverse(lead[k]) % prime
			for c := range row {
				row[c] = (row[c] + (prime-times)*lead[c]) % prime
			}
		}
	}
	return rank
}

// columnsOf is a mask's rows with just some columns, in any order, and with lists as further columns.
func columnsOf(m api.Mask, pixels []int, more ...[]int) [][]int {
	rows := make([][]int, len(m))
	for i := range m {
		rows[i] = []int{}
		for _, j := range pixels {
			rows[i] = append(rows[i], m[i][j])
		}
		for _, l := range more {
			rows[i] = append(rows[i], l[i])
		}
	}
	return rows
}

func upTo(n int) []int {
	l := make([]int, n)
	for i := range l {
		l[i] = i
	}
	return l
}

func without(l []int, value int) []int {
	return slices.DeleteFunc(slices.Clone(l), func(n int) bool { return n == value })
}

// freeOf are the pixels whose columns add nothing to the rank of those before them.
func freeOf(m api.Mask) []int {
	var free []int
	for j := range m[0] {
		if rankOf(columnsOf(m, upTo(j+1))) == rankOf(columnsOf(m, upTo(j))) {
			free = append(free, j)
		}
	}
	return free
}

func support(h []int) []int {
	l := []int{}
	for j, n := range h {
		if n != 0 {
			l = append(l, j)
		}
	}
	return l
}

// readings are some of a mask: possible ones, others, and those with the greatest numbers.
func readings(s *numbers, m api.Mask) [][]int {
	all := [][]int{filled(len(m), 0), filled(len(m), top), s.list(len(m), 1), s.list(len(m), 3), s.list(len(m), top), s.list(len(m), top)}
	for _, limit := range []int{1, 5, top / 10} {
		all = append(all, readOf(m, s.list(len(m[0]), limit)))
	}
	corner := s.list(len(m), 1)
	for i := range corner {
		corner[i] *= top
	}
	return append(all, corner)
}

func readOf(m api.Mask, x []int) []int {
	y := make([]int, len(m))
	for i := range m {
		y[i] = dot(m[i], x)
	}
	return y
}

func backOf(m api.Mask, z []int) []int {
	x := make([]int, len(m[0]))
	for i := range m {
		for j := range x {
			x[j] += m[i][j] * z[i]
		}
	}
	return x
}

func zeros(l []int) bool {
	return len(support(l)) == 0
}

func within(l []int, limit int) bool {
	return !slices.ContainsFunc(l, func(n int) bool { return n < -limit || n > limit })
}

func TestReading(t *testing.T) {
	for _, m := range []api.Mask{{{1}}, {{1, 0, -1}}, full(6, 10, 0), full(2, 3, 1), full(3, 2, 1)} {
		for length := range 14 {
			for _, n := range []int{0, 1, -1, top, -top} {
				if lin.Reading(m, filled(length, n)) != (length == len(m)) {
					t.Error("Reading of", length, "numbers", n, m)
				}
			}
		}
		for i := range m {
			for _, n := range []int{top + 1, -top - 1, math.MaxInt, math.MinInt} {
				y := filled(len(m), 0)
				y[i] = n
				if lin.Reading(m, y) {
					t.Error("Reading", m, y)
				}
			}
		}
		if lin.Reading(m, nil) {
			t.Error("Reading of nothing", m)
		}
	}
	for _, m := range wrongMasks() {
		if lin.Reading(m, filled(len(m), 0)) || lin.Reading(m, nil) || lin.Reading(m, []int{0}) {
			t.Error("Reading", m)
		}
	}
}

// wrongReadings are of a mask with two rows, with the error of each.
func wrongReadings() []struct {
	y []int
	e api.Errno
} {
	return []struct {
		y []int
		e api.Errno
	}{
		{nil, api.ErrSize}, {[]int{}, api.ErrSize}, {[]int{1}, api.ErrSize}, {[]int{1, 2, 3}, api.ErrSize}, {filled(1000, 0), api.ErrSize},
		{[]int{top + 1}, api.ErrSize}, {[]int{1, 2, math.MinInt}, api.ErrSize},
		{[]int{top + 1, 0}, api.ErrRange}, {[]int{0, -top - 1}, api.ErrRange}, {[]int{0, math.MaxInt}, api.ErrRange}, {[]int{math.MinInt, 0}, api.ErrRange},
	}
}

// wrongPixels are of a mask with three pixels; their order is asked for ahead of whether they are there.
func wrongPixels() []struct {
	pixels []int
	e      api.Errno
} {
	return []struct {
		pixels []int
		e      api.Errno
	}{
		{[]int{0, 0}, api.ErrRange}, {[]int{1, 0}, api.ErrRange}, {[]int{0, 2, 1}, api.ErrRange}, {[]int{0, 1, 1}, api.ErrRange}, {[]int{0, 1, 2, 2}, api.ErrRange},
		{[]int{3, 0}, api.ErrRange}, {[]int{3, 3}, api.ErrRange}, {[]int{0, -1}, api.ErrRange}, {[]int{-1, -1}, api.ErrRange}, {[]int{1, 0, 3}, api.ErrRange}, {[]int{0, 3, 2}, api.ErrRange},
		{[]int{math.MaxInt, math.MinInt}, api.ErrRange}, {filled(1000, 2), api.ErrRange}, {filled(1000, 9), api.ErrRange},
		{[]int{3}, api.ErrName}, {[]int{-1}, api.ErrName}, {[]int{0, 3}, api.ErrName}, {[]int{-1, 0}, api.ErrName}, {[]int{0, 1, 2, 3}, api.ErrName}, {[]int{-1, 0, 1, 2}, api.ErrName},
		{[]int{math.MinInt, 0, math.MaxInt}, api.ErrName}, {[]int{10}, api.ErrName}, {upTo(1000), api.ErrName},
	}
}

// wrongNames are pixels that a mask with three does not have.
func wrongNames() []int {
	return []int{-1, 3, 10, 1 << 32, -1 << 32, math.MaxInt, math.MinInt}
}
