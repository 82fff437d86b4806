package sparse_test

import (
	"cmp"
	"math"
	"math/big"
	"slices"
	"testing"

	"lightsieve/api"
	"lightsieve/sparse"
)

const top = api.MaxValue

// two is the mask of the document's examples.
func two() api.Mask {
	return api.Mask{{1, 1, 0}, {0, 1, 1}}
}

// twice has two equal rows, so that some readings are impossible.
func twice() api.Mask {
	return api.Mask{{1, 1}, {1, 1}}
}

func filled(n, value int) []int {
	return slices.Repeat([]int{value}, n)
}

// full is a mask with the same number everywhere.
func full(rows, pixels, value int) api.Mask {
	m := make(api.Mask, rows)
	for i := range m {
		m[i] = filled(pixels, value)
	}
	return m
}

// units is a mask with one pixel for each row.
func units(n int) api.Mask {
	m := full(n, n, 0)
	for i := range m {
		m[i][i] = 1
	}
	return m
}

// steep has the determinant 160, the greatest of a mask.
func steep() api.Mask {
	return api.Mask{
		{-1, 1, 1, 1, 1, 1}, {1, -1, 1, 1, 1, 1}, {1, 1, -1, 1, 1, 1},
		{-1, -1, -1, -1, 1, 1}, {-1, -1, -1, 1, -1, 1}, {-1, -1, -1, 1, 1, -1},
	}
}

// far has the coherence 1/12.
func far() api.Mask {
	return api.Mask{
		{0, -1, -1, 1, 0, -1, -1, 0}, {-1, -1, 1, -1, -1, -1, 0, 0}, {1, -1, 1, 1, -1, 1, 0, 0},
		{0, 0, -1, 0, -1, 0, 1, -1}, {1, -1, 0, -1, 1, 0, 0, -1}, {1, 0, 0, 0, 0, -1, 1, 1},
	}
}

// farther has the coherence 1/30, and no circuits.
func farther() api.Mask {
	return api.Mask{
		{1, 1, 1, 1, 1, 1}, {-1, 1, 1, -1, 1, 0}, {1, 0, 1, -1, -1, 1},
		{-1, -1, 1, 1, -1, 1}, {0, 1, 1, 1, -1, -1}, {1, -1, 1, 0, 1, -1},
	}
}

// besides has the columns of a, and then those of b.
func besides(a, b api.Mask) api.Mask {
	m := make(api.Mask, len(a))
	for i := range m {
		m[i] = slices.Concat(a[i], b[i])
	}
	return m
}

// numbers is a fixed row of numbers that look like chance.
type numbers uint64

func (s *numbers) below(n int) int {
	*s = *s*6364136223846793005 + 1442695040888963407
	return int(uint64(*s)>>33) % n
}

func (s *numbers) list(n, limit int) []int {
	l := make([]int, n)
	for i := range l {
		l[i] = s.below(2*limit+1) - limit
	}
	return l
}

func (s *numbers) mask(rows, pixels int) api.Mask {
	m := make(api.Mask, rows)
	for i := range m {
		m[i] = s.list(pixels, 1)
	}
	return m
}

// subset is some of the numbers below n, ascending, and maybe none.
func (s *numbers) subset(n int) []int {
	var l []int
	for i := range n {
		if s.below(2) == 0 {
			l = append(l, i)
		}
	}
	return l
}

// dots is a picture with at most k pixels that are not 0.
func (s *numbers) dots(n, k, limit int) []int {
	x := make([]int, n)
	for range k {
		x[s.below(n)] = s.below(2*limit+1) - limit
	}
	return x
}

// lists are all lists of n numbers from -limit to limit.
func lists(n, limit int) [][]int {
	all := [][]int{{}}
	for range n {
		var longer [][]int
		for _, l := range all {
			for value := -limit; value <= limit; value++ {
				longer = append(longer, append(slices.Clone(l), value))
			}
		}
		all = longer
	}
	return all
}

// members are the numbers of the bits of a set, ascending.
func members(set int) []int {
	l := []int{}
	for j := 0; set>>j > 0; j++ {
		if set>>j&1 == 1 {
			l = append(l, j)
		}
	}
	return l
}

// smallMasks are all masks of up to six numbers.
func smallMasks() []api.Mask {
	var masks []api.Mask
	for rows := 1; rows <= 6; rows++ {
		for pixels := 1; rows*pixels <= 6; pixels++ {
			for _, l := range lists(rows*pixels, 1) {
				var m api.Mask
				for row := range slices.Chunk(l, pixels) {
					m = append(m, row)
				}
				masks = append(masks, m)
			}
		}
	}
	return masks
}

// largeMasks are of each form, with columns and rows that depend on each other, and with great determinants.
func largeMasks() []api.Mask {
	var s numbers
	var masks []api.Mask
	for rows := 1; rows <= 6; rows++ {
		for pixels := 1; pixels <= 10; pixels++ {
			likeRows, likeColumns := s.mask(rows, pixels), s.mask(rows, pixels)
			likeRows[rows-1] = slices.Clone(likeRows[0])
			for i := range likeColumns {
				likeColumns[i][pixels-1] = -likeColumns[i][0]
			}
			masks = append(masks, s.mask(rows, pixels), likeRows, likeColumns)
		}
	}
	return append(masks, full(6, 10, 1), full(6, 10, 0), steep(), far(), farther(), besides(steep(), s.mask(6, 4)), besides(s.mask(6, 4), steep()), units(6))
}

func masks() []api.Mask {
	return append(smallMasks(), largeMasks()...)
}

func wrongMasks() []api.Mask {
	return []api.Mask{
		nil, {}, {nil}, {{}}, {{}, {}}, {{1}, nil}, {nil, {1}}, {{1, 0}, {1}}, {{1}, {1, 0}},
		full(7, 1, 1), full(7, 11, 1), full(1, 11, 1), full(6, 11, 0), full(100, 100, 0),
		{{2}}, {{-2}}, {{1, 0}, {0, 2}}, {{3, 1}, {1, 1}}, {{math.MaxInt}}, {{math.MinInt}}, {{256}}, {{1 << 32}},
	}
}

const prime = 1<<31 - 1

func inverse(n int) int {
	result := 1
	for exponent := prime - 2; exponent > 0; exponent /= 2 {
		if exponent%2 == 1 {
			result = result * n % prime
		}
		n = n * n % prime
	}
	return result
}

// rankOf counts modulo a prime. No determinant of a mask with a reading as a further column is as great, so that this is the rank.
func rankOf(rows [][]int) int {
	var left [][]int
	for _, row := range rows {
		l := make([]int, len(row))
		for k, n := range row {
			l[k] = (n%prime + prime) % prime
		}
		left = append(left, l)
	}
	rank := 0
	for k := range rows[0] {
		at := slices.IndexFunc(left, func(row []int) bool { return row[k] != 0 })
		if at < 0 {
			continue
		}
		lead := left[at]
		left = slices.Delete(left, at, at+1)
		rank++
		part := inverse(lead[k])
		for _, row := range left {
			times := row[k] * part % prime
			for c := range row {
				row[c] = (row[c] + (prime-times)*lead[c]) % prime
			}
		}
	}
	return rank
}

// columnsOf is a mask's rows with just some columns, and with lists as further columns.
func columnsOf(m api.Mask, pixels []int, more ...[]int) [][]int {
	rows := make([][]int, len(m))
	for i := range m {
		rows[i] = []int{}
		for _, j := range pixels {
			rows[i] = append(rows[i], m[i][j])
		}
		for _, l := range more {
			rows[i] = append(rows[i], l[i])
		}
	}
	return rows
}

func columnOf(m api.Mask, j int) []int {
	c := make([]int, len(m))
	for i := range m {
		c[i] = m[i][j]
	}
	return c
}

func upTo(n int) []int {
	l := make([]int, n)
	for i := range l {
		l[i] = i
	}
	return l
}

func support(x []int) []int {
	l := []int{}
	for j, n := range x {
		if n != 0 {
			l = append(l, j)
		}
	}
	return l
}

func dot(a, b []int) int {
	sum := 0
	for i := range a {
		sum += a[i] * b[i]
	}
	return sum
}

func readOf(m api.Mask, x []int) []int {
	y := make([]int, len(m))
	for i := range m {
		y[i] = dot(m[i], x)
	}
	return y
}

// readings are some of a mask: of few pixels and of many, impossible ones, and those with the greatest numbers.
func readings(s *numbers, m api.Mask) [][]int {
	all := [][]int{filled(len(m), 0), s.list(len(m), 1), s.list(len(m), 3), s.list(len(m), top)}
	for _, k := range []int{1, 2, 3} {
		all = append(all, readOf(m, s.dots(len(m[0]), k, 3)))
	}
	corner := s.list(len(m), 1)
	for i := range corner {
		corner[i] *= top
	}
	return append(all, corner, readOf(m, s.list(len(m[0]), top/10)))
}

func ratio(n, d int) api.Ratio {
	return api.Ratio{N: n, D: d}
}

func wholes(l ...int) []api.Ratio {
	var all []api.Ratio
	for _, n := range l {
		all = append(all, ratio(n, 1))
	}
	return all
}

func fit(pixels []int, values ...api.Ratio) api.Fit {
	return api.Fit{Pixels: pixels, Values: values}
}

func equalFits(a, b api.Fit) bool {
	return slices.Equal(a.Pixels, b.Pixels) && slices.Equal(a.Values, b.Values)
}

func none(f api.Fit) bool {
	return len(f.Pixels) == 0 && len(f.Values) == 0
}

func equalLists(a, b [][]int) bool {
	return slices.EqualFunc(a, b, func(x, y []int) bool { return slices.Equal(x, y) })
}

func bigRatio(r api.Ratio) *big.Rat {
	return big.NewRat(int64(r.N), int64(r.D))
}

// lowest asks whether a fraction is one in lowest terms, with parts up to a limit.
func lowest(r api.Ratio, limit int) bool {
	a, b := max(r.N, -r.N), r.D
	for b > 0 {
		a, b = b, a%b
	}
	return r.D >= 1 && a == 1 && max(r.N, -r.N, r.D) <= limit
}

// carriers are the pixels of all fits, ordered by how many there are and then by these, and told by ranks alone:
// a value is 0 if the other columns make the reading without it.
func carriers(m api.Mask, y []int) [][]int {
	makes := make([]bool, 1<<len(m[0]))
	independent := make([]bool, len(makes))
	for set := range makes {
		pixels := members(set)
		rank := rankOf(columnsOf(m, pixels))
		independent[set], makes[set] = rank == len(pixels), rankOf(columnsOf(m, pixels, y)) == rank
	}
	var found [][]int
	for set := range makes {
		pixels := members(set)
		if independent[set] && makes[set] && !slices.ContainsFunc(pixels, func(j int) bool { return makes[set&^(1<<j)] }) {
			found = append(found, pixels)
		}
	}
	slices.SortFunc(found, func(a, b []int) int { return cmp.Or(cmp.Compare(len(a), len(b)), slices.Compare(a, b)) })
	return found
}

// made asks whether a fit's values, which are valid and not 0, make a reading.
func made(m api.Mask, y []int, f api.Fit) bool {
	if len(f.Pixels) != len(f.Values) {
		return false
	}
	for i := range m {
		sum := new(big.Rat)
		for k, j := range f.Pixels {
			r := f.Values[k]
			if r.N == 0 || r.D > 400 || !lowest(r, 10000000000) {
				return false
			}
			sum.Add(sum, new(big.Rat).Mul(bigRatio(r), big.NewRat(int64(m[i][j]), 1)))
		}
		if sum.Cmp(big.NewRat(int64(y[i]), 1)) != 0 {
			return false
		}
	}
	return true
}

// wrongCase is what is wrong with a mask, a reading and pixels, and the error that is told of it.
type wrongCase struct {
	m         api.Mask
	y, pixels []int
	e         api.Errno
}

// wrongCases have each error alone, and ahead of those that come after it, also with readings that are impossible.
func wrongCases() []wrongCase {
	short, long, high := []int{1}, []int{1, 1, 1}, []int{1, top + 1}
	var all []wrongCase
	for _, m := range wrongMasks() {
		for _, y := range [][]int{filled(len(m), 0), filled(len(m), top+1), nil, short, long} {
			for _, pixels := range [][]int{nil, {0}, {1, 0}, {-1}, {99}} {
				all = append(all, wrongCase{m, y, pixels, api.ErrInvalid})
			}
		}
	}
	for _, m := range []api.Mask{two(), twice()} {
		for _, pixels := range [][]int{nil, {0}, {0, 1}, {1, 0}, {1, 1}, {-1}, {3}, {3, 2}} {
			for _, y := range [][]int{nil, short, long, {top + 1}, {0, 0, top + 1}} {
				all = append(all, wrongCase{m, y, pixels, api.ErrSize})
			}
			for _, y := range [][]int{high, {-top - 1, 1}, {math.MinInt, 1}, {1, math.MaxInt}} {
				all = append(all, wrongCase{m, y, pixels, api.ErrRange})
			}
		}
		for _, y := range [][]int{{1, 1}, {1, 2}} {
			for _, pixels := range [][]int{{1, 0}, {0, 0}, {1, 1}, {0, 1, 1}, {3, 3}, {4, 3}, {0, -1}, {math.MaxInt, math.MinInt}} {
				all = append(all, wrongCase{m, y, pixels, api.ErrRange})
			}
			for _, pixels := range [][]int{{-1}, {-1, 0}, {3}, {0, 3}, {10}, {math.MinInt}, {math.MaxInt}, {0, 1, 2, 3, 4, 5, 6, 7, 8, 9, 10, 11}} {
				all = append(all, wrongCase{m, y, pixels, api.ErrName})
			}
		}
	}
	return all
}

func TestErrorsOfPixels(t *testing.T) {
	for _, c := range wrongCases() {
		if is, e := sparse.Carries(c.m, c.y, c.pixels); is || e != c.e {
			t.Error("Carries", c, is, e)
		}
		if rest, e := sparse.Rest(c.m, c.y, c.pixels); len(rest) != 0 || e != c.e {
			t.Error("Rest", c, rest, e)
		}
		if pixel, e := sparse.Next(c.m, c.y, c.pixels); pixel != 0 || e != c.e {
			t.Error("Next", c, pixel, e)
		}
		if sparse.IsFit(c.m, c.y, fit(c.pixels, wholes(filled(len(c.pixels), 1)...)...)) {
			t.Error("IsFit", c)
		}
	}
}

// The pixels of the cases say nothing here, so that those that are wrong in these alone are left out.
func TestErrorsOfReadings(t *testing.T) {
	for _, c := range wrongCases() {
		if c.e == api.ErrName || c.e == api.ErrRange && len(c.pixels) > 0 {
			continue
		}
		for _, k := range []int{0, 3, 10, -1, 11} {
			if l, e := sparse.Fits(c.m, c.y, k); len(l) != 0 || e != c.e {
				t.Error("Fits", c, k, l, e)
			}
			if l, e := sparse.Whole(c.m, c.y, k); len(l) != 0 || e != c.e {
				t.Error("Whole", c, k, l, e)
			}
		}
		checkNoSparsest(t, c.m, c.y, c.e)
		checkNoPursuit(t, c.m, c.y, c.e)
	}
	for _, k := range []int{-1, 11, math.MinInt, math.MaxInt} {
		for _, y := range [][]int{{1, 1}, {1, 2}} {
			l, e := sparse.Fits(twice(), y, k)
			w, f := sparse.Whole(twice(), y, k)
			if len(l) != 0 || len(w) != 0 || e != api.ErrRange || f != api.ErrRange {
				t.Error("Fits and Whole", y, k, l, e, w, f)
			}
		}
	}
}

func checkNoSparsest(t *testing.T, m api.Mask, y []int, want api.Errno) {
	t.Helper()
	if f, e := sparse.Sparsest(m, y); !none(f) || e != want {
		t.Error("Sparsest", m, y, f, e)
	}
	if n, e := sparse.Size(m, y); n != 0 || e != want {
		t.Error("Size", m, y, n, e)
	}
	if n, e := sparse.Count(m, y); n != 0 || e != want {
		t.Error("Count", m, y, n, e)
	}
	if f, e := sparse.Only(m, y); !none(f) || e != want {
		t.Error("Only", m, y, f, e)
	}
}

func checkNoPursuit(t *testing.T, m api.Mask, y []int, want api.Errno) {
	t.Helper()
	if l, e := sparse.Pursuit(m, y); len(l) != 0 || e != want {
		t.Error("Pursuit", m, y, l, e)
	}
	if f, e := sparse.Greedy(m, y); !none(f) || e != want {
		t.Error("Greedy", m, y, f, e)
	}
}
