package cond_test

import (
	"math"
	"math/big"
	"slices"
	"testing"

	"lightsieve/api"
	"lightsieve/cond"
	"lightsieve/lin"
)

const top = api.MaxValue

// two is the mask of the document's examples.
func two() api.Mask {
	return api.Mask{{1, 1, 0}, {0, 1, 1}}
}

// twice has one circuit, of which each pixel has just one half.
func twice() api.Mask {
	return api.Mask{{1, 1}, {1, 1}}
}

// half has no circuits.
func half() api.Mask {
	return api.Mask{{1, 1}, {1, -1}}
}

// line has four circuits, of which one has a pixel that is not seen alone.
func line() api.Mask {
	return api.Mask{{1, -1, 0, 1}}
}

func filled(n, value int) []int {
	return slices.Repeat([]int{value}, n)
}

// full is a mask with the same number everywhere.
func full(rows, pixels, value int) api.Mask {
	m := make(api.Mask, rows)
	for i := range m {
		m[i] = filled(pixels, value)
	}
	return m
}

// units is a mask with one pixel for each row.
func units(n int) api.Mask {
	m := full(n, n, 0)
	for i := range m {
		m[i][i] = 1
	}
	return m
}

// ring has one circuit, with the number 1 or -1 at all its n+1 pixels.
func ring(n int) api.Mask {
	return besides(units(n), full(n, 1, 1))
}

// steep has the determinant 160, the greatest of a mask.
func steep() api.Mask {
	return api.Mask{
		{-1, 1, 1, 1, 1, 1}, {1, -1, 1, 1, 1, 1}, {1, 1, -1, 1, 1, 1},
		{-1, -1, -1, -1, 1, 1}, {-1, -1, -1, 1, -1, 1}, {-1, -1, -1, 1, 1, -1},
	}
}

// far has the coherence 1/12.
func far() api.Mask {
	return api.Mask{
		{0, -1, -1, 1, 0, -1, -1, 0}, {-1, -1, 1, -1, -1, -1, 0, 0}, {1, -1, 1, 1, -1, 1, 0, 0},
		{0, 0, -1, 0, -1, 0, 1, -1}, {1, -1, 0, -1, 1, 0, 0, -1}, {1, 0, 0, 0, 0, -1, 1, 1},
	}
}

// besides has the columns of a, and then those of b.
func besides(a, b api.Mask) api.Mask {
	m := make(api.Mask, len(a))
	for i := range m {
		m[i] = slices.Concat(a[i], b[i])
	}
	return m
}

// numbers is a fixed row of numbers that look like chance.
type numbers uint64

func (s *numbers) below(n int) int {
	*s = *s*6364136223846793005 + 1442695040888963407
	return int(uint64(*s)>>33) % n
}

func (s *numbers) list(n, limit int) []int {
	l := make([]int, n)
	for i := range l {
		l[i] = s.below(2*limit+1) - limit
	}
	return l
}

func (s *numbers) mask(rows, pixels int) api.Mask {
	m := make(api.Mask, rows)
	for i := range m {
		m[i] = s.list(pixels, 1)
	}
	return m
}

// dots is a picture with at most k pixels that are not 0.
func (s *numbers) dots(n, k, limit int) []int {
	x := make([]int, n)
	for range k {
		x[s.below(n)] = s.below(2*limit+1) - limit
	}
	return x
}

// order has each number below n once.
func (s *numbers) order(n int) []int {
	l := upTo(n)
	for i := range l {
		j := i + s.below(n-i)
		l[i], l[j] = l[j], l[i]
	}
	return l
}

// lists are all lists of n numbers from -limit to limit, in ascending order.
func lists(n, limit int) [][]int {
	all := [][]int{{}}
	for range n {
		var longer [][]int
		for _, l := range all {
			for value := -limit; value <= limit; value++ {
				longer = append(longer, append(slices.Clone(l), value))
			}
		}
		all = longer
	}
	return all
}

// smallMasks are all masks of up to six numbers.
func smallMasks() []api.Mask {
	var masks []api.Mask
	for rows := 1; rows <= 6; rows++ {
		for pixels := 1; rows*pixels <= 6; pixels++ {
			for _, l := range lists(rows*pixels, 1) {
				var m api.Mask
				for row := range slices.Chunk(l, pixels) {
					m = append(m, row)
				}
				masks = append(masks, m)
			}
		}
	}
	return masks
}

// largeMasks are of each form, with columns and rows that depend on each other, and with great determinants.
func largeMasks() []api.Mask {
	var s numbers
	var masks []api.Mask
	for rows := 1; rows <= 6; rows++ {
		for pixels := 1; pixels <= 10; pixels++ {
			likeRows, likeColumns := s.mask(rows, pixels), s.mask(rows, pixels)
			likeRows[rows-1] = slices.Clone(likeRows[0])
			for i := range likeColumns {
				likeColumns[i][pixels-1] = -likeColumns[i][0]
			}
			masks = append(masks, s.mask(rows, pixels), likeRows, likeColumns)
		}
	}
	for n := 1; n <= 6; n++ {
		masks = append(masks, ring(n))
	}
	return append(masks, full(6, 10, 1), full(6, 10, 0), steep(), far(), besides(steep(), s.mask(6, 4)), besides(s.mask(6, 4), steep()), units(6))
}

func masks() []api.Mask {
	return append(smallMasks(), largeMasks()...)
}

func wrongMasks() []api.Mask {
	return []api.Mask{
		nil, {}, {nil}, {{}}, {{}, {}}, {{1}, nil}, {nil, {1}}, {{1, 0}, {1}}, {{1}, {1, 0}},
		full(7, 1, 1), full(7, 11, 1), full(1, 11, 1), full(6, 11, 0), full(100, 100, 0),
		{{2}}, {{-2}}, {{1, 0}, {0, 2}}, {{3, 1}, {1, 1}}, {{math.MaxInt}}, {{math.MinInt}}, {{256}}, {{1 << 32}},
	}
}

func upTo(n int) []int {
	l := make([]int, n)
	for i := range l {
		l[i] = i
	}
	return l
}

func dot(a, b []int) int {
	sum := 0
	for i := range a {
		sum += a[i] * b[i]
	}
	return sum
}

func times(k int, l []int) []int {
	all := make([]int, len(l))
	for i, n := range l {
		all[i] = k * n
	}
	return all
}

func plus(a, b []int) []int {
	all := make([]int, len(a))
	for i := range a {
		all[i] = a[i] + b[i]
	}
	return all
}

func norm(l []int) int {
	sum := 0
	for _, n := range l {
		sum += max(n, -n)
	}
	return sum
}

func lit(x []int) int {
	pixels := 0
	for _, n := range x {
		if n != 0 {
			pixels++
		}
	}
	return pixels
}

func ratio(n, d int) api.Ratio {
	return api.Ratio{N: n, D: d}
}

func equalLists(a, b [][]int) bool {
	return slices.EqualFunc(a, b, func(x, y []int) bool { return slices.Equal(x, y) })
}

// subsets are all sets of numbers below n, in ascending order of their lists.
func subsets(n int) [][]int {
	var all [][]int
	for bits := range 1 << n {
		set := []int{}
		for j := range n {
			if bits>>j&1 == 1 {
				set = append(set, j)
			}
		}
		all = append(all, set)
	}
	slices.SortFunc(all, func(a, b []int) int { return slices.Compare(a, b) })
	return all
}

func subsetsOf(n, k int) [][]int {
	return slices.DeleteFunc(subsets(n), func(l []int) bool { return len(l) != k })
}

// part is how much of all there is, in no lowest terms.
type part struct{ of, all int }

func (p part) above(q part) bool { return p.of*q.all > q.of*p.all }
func (p part) isHalf() bool      { return 2*p.of >= p.all }

func (p part) lowest() api.Ratio {
	r := big.NewRat(int64(p.of), int64(p.all))
	return ratio(int(r.Num().Int64()), int(r.Denom().Int64()))
}

// shareOf is the share of pixels in a vector by its definition.
func shareOf(h, pixels []int) part {
	sum := 0
	for _, j := range pixels {
		sum += max(h[j], -h[j])
	}
	return part{sum, norm(h)}
}

// hiddenBy are vectors of a mask among which its circuits are: for a small mask all that have small numbers.
func hiddenBy(m api.Mask) [][]int {
	if len(m)*len(m[0]) > 6 {
		circuits, _ := lin.Circuits(m)
		return circuits
	}
	limit := 2
	if len(m) == 1 {
		limit = 1
	}
	return slices.DeleteFunc(lists(len(m[0]), limit), func(h []int) bool {
		sees := func(row []int) bool { return dot(row, h) != 0 }
		return lit(h) == 0 || slices.ContainsFunc(m, sees)
	})
}

// greatestOf is the greatest share of pixels in some vectors.
func greatestOf(vectors [][]int, pixels []int) part {
	greatest := part{0, 1}
	for _, h := range vectors {
		if s := shareOf(h, pixels); s.above(greatest) {
			greatest = s
		}
	}
	return greatest
}

// greatestUpTo are the greatest shares of 0, 1 and more pixels, by trying all sets of them.
func greatestUpTo(vectors [][]int, pixels int) []part {
	all := slices.Repeat([]part{{0, 1}}, pixels+1)
	for _, set := range subsets(pixels) {
		if s := greatestOf(vectors, set); s.above(all[len(set)]) {
			all[len(set)] = s
		}
	}
	return all
}

// orderOf is the order by the shares of all sets.
func orderOf(m api.Mask) int {
	for k, s := range greatestUpTo(hiddenBy(m), len(m[0])) {
		if s.isHalf() {
			return k - 1
		}
	}
	return len(m[0])
}

// wrongPixels have each error of pixels of three, alone and ahead of what comes after it.
func wrongPixels() map[api.Errno][][]int {
	return map[api.Errno][][]int{
		api.ErrRange: {{0, 0}, {1, 0}, {2, 1}, {0, 2, 2}, {0, 2, 1}, {0, 1, 2, 0}, {3, 3}, {-1, -1}, {5, 4}, {0, -1}, {math.MaxInt, math.MinInt}},
		api.ErrName:  {{-1}, {3}, {0, 3}, {-1, 0}, {0, 1, 2, 3}, {-1, 3}, {0, 10}, {math.MinInt}, {math.MaxInt}, {math.MinInt, math.MaxInt}},
	}
}

func TestErrorsOfMasks(t *testing.T) {
	for _, m := range wrongMasks() {
		for _, l := range [][]int{nil, {0}, {1, 0}, {99}, {top + 1}, {0, 0, 0, 0}} {
			checkOfPixels(t, m, l, api.ErrInvalid)
			checkOfPicture(t, m, l, api.ErrInvalid)
		}
		for _, k := range []int{0, 1, -1, 99} {
			checkOfNumber(t, m, k, api.ErrInvalid)
			if x, e := cond.Bad(m, k); len(x) != 0 || e != api.ErrInvalid {
				t.Error("Bad", m, k, x, e)
			}
		}
		if k, e := cond.Order(m); k != 0 || e != api.ErrInvalid {
			t.Error("Order", m, k, e)
		}
		if l, e := cond.Blind(m); len(l) != 0 || e != api.ErrInvalid {
			t.Error("Blind", m, l, e)
		}
		if l, e := cond.Rows(m); len(l) != 0 || e != api.ErrInvalid {
			t.Error("Rows", m, l, e)
		}
		if s := cond.Report(m); s != "" {
			t.Errorf("Report %v %q", m, s)
		}
	}
}

func TestErrorsOfPixels(t *testing.T) {
	for want, pixels := range wrongPixels() {
		for _, l := range pixels {
			for _, m := range []api.Mask{two(), units(3), full(6, 3, 0), {{1, 1, 1}}} {
				checkOfPixels(t, m, l, want)
			}
		}
	}
}

func TestErrorsOfNumbers(t *testing.T) {
	for _, m := range []api.Mask{two(), units(3), full(6, 3, 0), {{1, 1, 1}}} {
		for _, k := range []int{-1, 4, 10, 11, math.MinInt, math.MaxInt} {
			checkOfNumber(t, m, k, api.ErrRange)
			if x, e := cond.Bad(m, k); len(x) != 0 || e != api.ErrRange {
				t.Error("Bad", m, k, x, e)
			}
		}
		if x, e := cond.Bad(m, 0); len(x) != 0 || e != api.ErrRange {
			t.Error("Bad of no pixels", m, x, e)
		}
	}
}

func TestErrorsOfPictures(t *testing.T) {
	for _, m := range []api.Mask{two(), units(3), full(6, 3, 0)} {
		for _, x := range [][]int{nil, {}, {1, 0}, {1, 0, 0, 0}, {top + 1, 0}, {0, 0, 0, top + 1}, filled(10, 0)} {
			checkOfPicture(t, m, x, api.ErrSize)
		}
		for _, x := range [][]int{{top + 1, 0, 0}, {0, -top - 1, 0}, {1, 1, math.MaxInt}, {math.MinInt, 1, 1}, {top, top, top + 1}} {
			checkOfPicture(t, m, x, api.ErrRange)
		}
	}
}

func checkOfPixels(t *testing.T, m api.Mask, pixels []int, want api.Errno) {
	t.Helper()
	if r, e := cond.Of(m, pixels); r != ratio(0, 0) || e != want {
		t.Error("Of", m, pixels, r, e)
	}
	if is, e := cond.Safe(m, pixels); is || e != want {
		t.Error("Safe", m, pixels, is, e)
	}
}

func checkOfNumber(t *testing.T, m api.Mask, k int, want api.Errno) {
	t.Helper()
	if r, e := cond.Greatest(m, k); r != ratio(0, 0) || e != want {
		t.Error("Greatest", m, k, r, e)
	}
	if h, l, e := cond.Where(m, k); len(h) != 0 || len(l) != 0 || e != want {
		t.Error("Where", m, k, h, l, e)
	}
	if l, e := cond.Unsafe(m, k); len(l) != 0 || e != want {
		t.Error("Unsafe", m, k, l, e)
	}
}

func checkOfPicture(t *testing.T, m api.Mask, x []int, want api.Errno) {
	t.Helper()
	if is, e := cond.SafePicture(m, x); is || e != want {
		t.Error("SafePicture", m, x, is, e)
	}
	if h, e := cond.Against(m, x); len(h) != 0 || e != want {
		t.Error("Against", m, x, h, e)
	}
	for _, k := range []int{1, 2, 3, 10} {
		if cond.IsBad(m, k, x) {
			t.Error("IsBad", m, k, x)
		}
	}
}
