package lin

import (
	"slices"

	"lightsieve/api"
)

// reduction is the rows of some columns of a mask, reduced by multiples of each other, with more numbers behind each row that follow.
// Each pivot's column is the divisor in the pivot's own row and 0 in the others; below the rows of the pivots all columns are 0.
type reduction struct {
	columns int
	rows    [][]int
	pivots  []int
	divisor int
}

// reduce chooses as pivots the columns that are no sum of multiples of the columns before them.
func reduce(m api.Mask, pixels []int, behind func(row int) []int) reduction {
	r := reduction{columns: len(pixels), divisor: 1}
	for i, numbers := range m {
		row := make([]int, 0, 2*api.MaxPixels)
		for _, j := range pixels {
			row = append(row, numbers[j])
		}
		r.rows = append(r.rows, append(row, behind(i)...))
	}
	for column := range pixels {
		r.clear(column)
	}
	return r
}

func reduceAll(m api.Mask, behind func(row int) []int) reduction {
	var pixels []int
	for j := range m[0] {
		pixels = append(pixels, j)
	}
	return reduce(m, pixels, behind)
}

// clear makes a column a pivot, if it is not 0 below the pivots' rows.
// Then all numbers of the rows are determinants, so that the former divisor divides them and they stay small.
func (r *reduction) clear(column int) {
	at := len(r.pivots)
	below := slices.IndexFunc(r.rows[at:], func(row []int) bool { return row[column] != 0 })
	if below < 0 {
		return
	}
	r.rows[at], r.rows[at+below] = r.rows[at+below], r.rows[at]
	own := r.rows[at]
	if own[column] < 0 {
		turn(own)
	}
	next := own[column]
	for i, row := range r.rows {
		if i == at {
			continue
		}
		times := row[column]
		for k, n := range row {
			row[k] = (next*n - times*own[k]) / r.divisor
		}
	}
	r.pivots, r.divisor = append(r.pivots, column), next
}

func (r reduction) rank() int {
	return len(r.pivots)
}

func (r reduction) free() []int {
	var columns []int
	for column := range r.columns {
		if !slices.Contains(r.pivots, column) {
			columns = append(columns, column)
		}
	}
	return columns
}

func (r reduction) behind(row int) []int {
	return r.rows[row][r.columns:]
}

// kernel is the primitive list, but for its sign, that all rows read as 0, with a number above 0 at a free column and 0 at the other free ones.
func (r reduction) kernel(free int) []int {
	h := make([]int, r.columns)
	h[free] = r.divisor
	for i, pivot := range r.pivots {
		h[pivot] = -r.rows[i][free]
	}
	return shorten(h)
}

// known is the row in which a column stands alone, and -1 if there is none.
func (r reduction) known(column int) int {
	i := slices.Index(r.pivots, column)
	if i < 0 {
		return -1
	}
	for _, free := range r.free() {
		if r.rows[i][free] != 0 {
			return -1
		}
	}
	return i
}

// possible reports whether nothing stands behind the rows that are 0.
func (r reduction) possible() bool {
	for i := r.rank(); i < len(r.rows); i++ {
		if slices.ContainsFunc(r.behind(i), nonzero) {
			return false
		}
	}
	return true
}

// solved is the value of each column for the number behind the rows, with 0 at the free ones.
func (r reduction) solved() []api.Ratio {
	values := make([]api.Ratio, r.columns)
	for j := range values {
		values[j] = lowest(0, 1)
	}
	for i, pivot := range r.pivots {
		values[pivot] = r.value(i)
	}
	return values
}

func (r reduction) value(row int) api.Ratio {
	return lowest(r.behind(row)[0], r.divisor)
}

func nothing(int) []int {
	return nil
}

func oneOf(y []int) func(row int) []int {
	return func(row int) []int { return []int{y[row]} }
}

// whichOf numbers the rows, so that behind a reduced row stands how often each row of the mask is in it.
func whichOf(m api.Mask) func(row int) []int {
	return func(row int) []int {
		times := make([]int, len(m))
		times[row] = 1
		return times
	}
}

func turn(l []int) {
	for i, n := range l {
		l[i] = -n
	}
}

// shorten divides numbers, which are not all 0, by their common divisor.
func shorten(l []int) []int {
	common := divisor(l...)
	for i, n := range l {
		l[i] = n / common
	}
	return l
}
