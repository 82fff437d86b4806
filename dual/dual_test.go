package dual_test

import (
	"math"
	"math/big"
	"slices"
	"testing"

	"lightsieve/api"
	"lightsieve/dual"
)

const top = api.MaxValue

// two is the mask of the document's examples.
func two() api.Mask {
	return api.Mask{{1, 1, 0}, {0, 1, 1}}
}

// twice has two equal rows, so that some readings are impossible.
func twice() api.Mask {
	return api.Mask{{1, 1}, {1, 1}}
}

// half has least pictures that are not whole.
func half() api.Mask {
	return api.Mask{{1, 1}, {1, -1}}
}

// line has several least pictures of each reading but 0.
func line() api.Mask {
	return api.Mask{{1, -1, 0, 1}}
}

func filled(n, value int) []int {
	return slices.Repeat([]int{value}, n)
}

// full is a mask with the same number everywhere.
func full(rows, pixels, value int) api.Mask {
	m := make(api.Mask, rows)
	for i := range m {
		m[i] = filled(pixels, value)
	}
	return m
}

// units is a mask with one pixel for each row.
func units(n int) api.Mask {
	m := full(n, n, 0)
	for i := range m {
		m[i][i] = 1
	}
	return m
}

// steep has the determinant 160, the greatest of a mask.
func steep() api.Mask {
	return api.Mask{
		{-1, 1, 1, 1, 1, 1}, {1, -1, 1, 1, 1, 1}, {1, 1, -1, 1, 1, 1},
		{-1, -1, -1, -1, 1, 1}, {-1, -1, -1, 1, -1, 1}, {-1, -1, -1, 1, 1, -1},
	}
}

// far has the coherence 1/12.
func far() api.Mask {
	return api.Mask{
		{0, -1, -1, 1, 0, -1, -1, 0}, {-1, -1, 1, -1, -1, -1, 0, 0}, {1, -1, 1, 1, -1, 1, 0, 0},
		{0, 0, -1, 0, -1, 0, 1, -1}, {1, -1, 0, -1, 1, 0, 0, -1}, {1, 0, 0, 0, 0, -1, 1, 1},
	}
}

// besides has the columns of a, and then those of b.
func besides(a, b api.Mask) api.Mask {
	m := make(api.Mask, len(a))
	for i := range m {
		m[i] = slices.Concat(a[i], b[i])
	}
	return m
}

// numbers is a fixed row of numbers that look like chance.
type numbers uint64

func (s *numbers) below(n int) int {
	*s = *s*6364136223846793005 + 1442695040888963407
	return int(uint64(*s)>>33) % n
}

func (s *numbers) list(n, limit int) []int {
	l := make([]int, n)
	for i := range l {
		l[i] = s.below(2*limit+1) - limit
	}
	return l
}

func (s *numbers) mask(rows, pixels int) api.Mask {
	m := make(api.Mask, rows)
	for i := range m {
		m[i] = s.list(pixels, 1)
	}
	return m
}

// dots is a picture with at most k pixels that are not 0.
func (s *numbers) dots(n, k, limit int) []int {
	x := make([]int, n)
	for range k {
		x[s.below(n)] = s.below(2*limit+1) - limit
	}
	return x
}

// lists are all lists of n numbers from -limit to limit, in ascending order.
func lists(n, limit int) [][]int {
	all := [][]int{{}}
	for range n {
		var longer [][]int
		for _, l := range all {
			for value := -limit; value <= limit; value++ {
				longer = append(longer, append(slices.Clone(l), value))
			}
		}
		all = longer
	}
	return all
}

// smallMasks are all masks of up to six numbers.
func smallMasks() []api.Mask {
	var masks []api.Mask
	for rows := 1; rows <= 6; rows++ {
		for pixels := 1; rows*pixels <= 6; pixels++ {
			for _, l := range lists(rows*pixels, 1) {
				var m api.Mask
				for row := range slices.Chunk(l, pixels) {
					m = append(m, row)
				}
				masks = append(masks, m)
			}
		}
	}
	return masks
}

// largeMasks are of each form, with columns and rows that depend on each other, and with great determinants.
func largeMasks() []api.Mask {
	var s numbers
	var masks []api.Mask
	for rows := 1; rows <= 6; rows++ {
		for pixels := 1; pixels <= 10; pixels++ {
			likeRows, likeColumns := s.mask(rows, pixels), s.mask(rows, pixels)
			likeRows[rows-1] = slices.Clone(likeRows[0])
			for i := range likeColumns {
				likeColumns[i][pixels-1] = -likeColumns[i][0]
			}
			masks = append(masks, s.mask(rows, pixels), likeRows, likeColumns)
		}
	}
	return append(masks, full(6, 10, 1), full(6, 10, 0), steep(), far(), besides(steep(), s.mask(6, 4)), besides(s.mask(6, 4), steep()), units(6))
}

func masks() []api.Mask {
	return append(smallMasks(), largeMasks()...)
}

func wrongMasks() []api.Mask {
	return []api.Mask{
		nil, {}, {nil}, {{}}, {{}, {}}, {{1}, nil}, {nil, {1}}, {{1, 0}, {1}}, {{1}, {1, 0}},
		full(7, 1, 1), full(7, 11, 1), full(1, 11, 1), full(6, 11, 0), full(100, 100, 0),
		{{2}}, {{-2}}, {{1, 0}, {0, 2}}, {{3, 1}, {1, 1}}, {{math.MaxInt}}, {{math.MinInt}}, {{256}}, {{1 << 32}},
	}
}

func columnOf(m api.Mask, j int) []int {
	c := make([]int, len(m))
	for i := range m {
		c[i] = m[i][j]
	}
	return c
}

func upTo(n int) []int {
	l := make([]int, n)
	for i := range l {
		l[i] = i
	}
	return l
}

func dot(a, b []int) int {
	sum := 0
	for i := range a {
		sum += a[i] * b[i]
	}
	return sum
}

func readOf(m api.Mask, x []int) []int {
	y := make([]int, len(m))
	for i := range m {
		y[i] = dot(m[i], x)
	}
	return y
}

// backOf is what a list of whole numbers, one for each row, sees at the pixels.
func backOf(m api.Mask, z []int) []int {
	x := make([]int, len(m[0]))
	for j := range x {
		x[j] = dot(columnOf(m, j), z)
	}
	return x
}

func times(k int, l []int) []int {
	all := make([]int, len(l))
	for i, n := range l {
		all[i] = k * n
	}
	return all
}

// readings are some of a mask: of few pixels and of many, of light pictures, impossible ones, and those with the greatest numbers.
func readings(s *numbers, m api.Mask) [][]int {
	all := [][]int{filled(len(m), 0), s.list(len(m), 1), s.list(len(m), 3), s.list(len(m), top)}
	for _, k := range []int{1, 2, 3} {
		all = append(all, readOf(m, s.dots(len(m[0]), k, 3)), readOf(m, sizes(s.dots(len(m[0]), k, 5))))
	}
	corner := s.list(len(m), 1)
	for i := range corner {
		corner[i] *= top
	}
	return append(all, corner, readOf(m, s.list(len(m[0]), top/10)), readOf(m, sizes(s.list(len(m[0]), 4))))
}

func sizes(l []int) []int {
	all := make([]int, len(l))
	for i, n := range l {
		all[i] = max(n, -n)
	}
	return all
}

func ratio(n, d int) api.Ratio {
	return api.Ratio{N: n, D: d}
}

func wholes(l ...int) []api.Ratio {
	var all []api.Ratio
	for _, n := range l {
		all = append(all, ratio(n, 1))
	}
	return all
}

func filledRatios(n int, r api.Ratio) []api.Ratio {
	return slices.Repeat([]api.Ratio{r}, n)
}

// wrongRatios are no valid fractions.
func wrongRatios() []api.Ratio {
	return []api.Ratio{
		{}, ratio(1, 0), ratio(1, -1), ratio(-1, -1), ratio(0, 2), ratio(0, 400), ratio(2, 2), ratio(2, 4), ratio(-3, 9), ratio(1, 401), ratio(401, 401), ratio(400, 400), ratio(0, -1),
		ratio(10000000001, 1), ratio(-10000000001, 1), ratio(20000000002, 2), ratio(math.MaxInt, 1), ratio(math.MinInt, 1), ratio(math.MinInt, math.MinInt), ratio(1, math.MaxInt), ratio(1, math.MinInt), ratio(math.MinInt, -1), ratio(math.MaxInt, math.MaxInt),
	}
}

func equalPictures(a, b [][]api.Ratio) bool {
	return slices.EqualFunc(a, b, func(x, y []api.Ratio) bool { return slices.Equal(x, y) })
}

func equalLists(a, b [][]int) bool {
	return slices.EqualFunc(a, b, func(x, y []int) bool { return slices.Equal(x, y) })
}

func bigRatio(r api.Ratio) *big.Rat {
	return big.NewRat(int64(r.N), int64(r.D))
}

func bigWhole(n int) *big.Rat {
	return big.NewRat(int64(n), 1)
}

// isValid asks whether a fraction is one in lowest terms within the limits.
func isValid(l ...api.Ratio) bool {
	for _, r := range l {
		if r.D < 1 || r.D > 400 || max(r.N, -r.N) > 10000000000 || r.N < -10000000000 {
			return false
		}
		if lowest := bigRatio(r); lowest.Denom().Int64() != int64(r.D) {
			return false
		}
	}
	return true
}

// sumOf is the sum of fractions times numbers.
func sumOf(l []api.Ratio, by []int) *big.Rat {
	sum := new(big.Rat)
	for i, r := range l {
		sum.Add(sum, new(big.Rat).Mul(bigRatio(r), bigWhole(by[i])))
	}
	return sum
}

func normOf(x []api.Ratio) *big.Rat {
	sum := new(big.Rat)
	for _, r := range x {
		sum.Add(sum, new(big.Rat).Abs(bigRatio(r)))
	}
	return sum
}

// makes asks whether a picture of valid fractions makes a reading.
func makes(m api.Mask, x []api.Ratio, y []int) bool {
	if len(x) != len(m[0]) || !isValid(x...) {
		return false
	}
	for i, row := range m {
		if sumOf(x, row).Cmp(bigWhole(y[i])) != 0 {
			return false
		}
	}
	return true
}

// proves asks for a proof by its definition.
func proves(m api.Mask, y []int, l api.Least) bool {
	if !makes(m, l.Picture, y) || len(l.Proof) != len(m) || !isValid(l.Proof...) {
		return false
	}
	for j := range m[0] {
		if new(big.Rat).Abs(sumOf(l.Proof, columnOf(m, j))).Cmp(bigWhole(1)) > 0 {
			return false
		}
	}
	return sumOf(l.Proof, y).Cmp(normOf(l.Picture)) == 0
}

// wrongCase is what is wrong with a mask, a reading and a pixel, and the error that is told of it.
type wrongCase struct {
	m     api.Mask
	y     []int
	pixel int
	e     api.Errno
}

// wrongCases have each error alone, and ahead of those that come after it, also with readings that are impossible.
func wrongCases() []wrongCase {
	var all []wrongCase
	for _, m := range wrongMasks() {
		for _, y := range [][]int{filled(len(m), 0), filled(len(m), top+1), nil, {1}, {1, 1, 1}} {
			for _, pixel := range []int{0, -1, 99} {
				all = append(all, wrongCase{m, y, pixel, api.ErrInvalid})
			}
		}
	}
	for _, m := range []api.Mask{two(), twice()} {
		for _, pixel := range []int{0, 1, -1, 3} {
			for _, y := range [][]int{nil, {}, {1}, {1, 1, 1}, {top + 1}, {0, 0, top + 1}} {
				all = append(all, wrongCase{m, y, pixel, api.ErrSize})
			}
			for _, y := range [][]int{{1, top + 1}, {-top - 1, 1}, {math.MinInt, 1}, {1, math.MaxInt}} {
				all = append(all, wrongCase{m, y, pixel, api.ErrRange})
			}
		}
		for _, y := range [][]int{{1, 1}, {1, 2}, {-1, -1}, {top, -top}} {
			for _, pixel := range []int{-1, 3, 10, math.MinInt, math.MaxInt} {
				all = append(all, wrongCase{m, y, pixel, api.ErrName})
			}
		}
	}
	return all
}

func TestErrorsOfPixels(t *testing.T) {
	for _, c := range wrongCases() {
		if lo, hi, e := dual.Range(c.m, c.y, c.pixel); lo != ratio(0, 0) || hi != ratio(0, 0) || e != c.e {
			t.Error("Range", c, lo, hi, e)
		}
		if r, e := dual.Brightest(c.m, c.y, c.pixel); r != ratio(0, 0) || e != c.e {
			t.Error("Brightest", c, r, e)
		}
	}
}

func TestErrorsOfReadings(t *testing.T) {
	for _, c := range wrongCases() {
		if c.e == api.ErrName {
			continue
		}
		checkNoLeast(t, c.m, c.y, c.e)
		if x, e := dual.Light(c.m, c.y); len(x) != 0 || e != c.e {
			t.Error("Light", c, x, e)
		}
		if z, e := dual.Shade(c.m, c.y); len(z) != 0 || e != c.e {
			t.Error("Shade", c, z, e)
		}
		pixels := 1
		if c.e != api.ErrInvalid {
			pixels = len(c.m[0])
		}
		x, z := filledRatios(pixels, ratio(0, 1)), filled(len(c.m), -1)
		if dual.IsLight(c.m, c.y, x) || dual.Shades(c.m, c.y, z) || dual.Proves(c.m, c.y, api.Least{Picture: x, Proof: filledRatios(len(c.m), ratio(0, 1))}) {
			t.Error("true of", c)
		}
		if is, e := dual.IsLeast(c.m, c.y, x); is || e != c.e {
			t.Error("IsLeast", c, x, is, e)
		}
	}
}

// checkNoLeast is for readings of which there is no least picture, or that are none.
func checkNoLeast(t *testing.T, m api.Mask, y []int, want api.Errno) {
	t.Helper()
	if r, e := dual.Value(m, y); r != ratio(0, 0) || e != want {
		t.Error("Value", m, y, r, e)
	}
	if l, e := dual.Least(m, y); len(l.Picture) != 0 || len(l.Proof) != 0 || e != want {
		t.Error("Least", m, y, l, e)
	}
	if l, e := dual.Corners(m, y); len(l) != 0 || e != want {
		t.Error("Corners", m, y, l, e)
	}
	if is, e := dual.Unique(m, y); is || e != want {
		t.Error("Unique", m, y, is, e)
	}
	if l, e := dual.Fixed(m, y); len(l) != 0 || e != want {
		t.Error("Fixed", m, y, l, e)
	}
}
