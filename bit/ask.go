package bit

import (
	"iter"
	"slices"

	"lightsieve/api"
)

// No more rows are compared at once.
const maxChoice = 20

// No cell of Quantised has more whole numbers.
const maxStep = 100

// choice is a threshold of one of several rows, with how many pictures lie on the fuller side of it, and on the other one.
type choice struct {
	row, threshold  int
	greater, lesser int
}

// Quantised returns the cell in which a picture's sum lies if all sums are cut into cells of so many whole numbers.
func Quantised(f api.Field, row, x []int, step int) (api.Cell, api.Errno) {
	sum, e := Sum(f, row, x)
	if e != api.OK {
		return api.Cell{}, e
	}
	if step < 1 || step > maxStep {
		return api.Cell{}, api.ErrRange
	}
	// Go's remainder of a sum below 0 is below 0 itself, so that it would round towards 0.
	lo := sum - (sum%step+step)%step
	cell := api.Cell{Row: slices.Clone(row), Lo: lo, Hi: lo + step - 1}
	// A cell must not reach beyond the limits; with sums from -24 to 24 none does.
	if !validCell(f, cell) {
		return api.Cell{}, api.ErrRange
	}
	return cell, api.OK
}

// Bit returns the cell of all sums that are on the same side of a threshold as a picture's sum.
func Bit(f api.Field, row, x []int, threshold int) (api.Cell, api.Errno) {
	sum, e := Sum(f, row, x)
	if e != api.OK {
		return api.Cell{}, e
	}
	// No cell is below the least number.
	if threshold <= -farthest || threshold > farthest {
		return api.Cell{}, api.ErrRange
	}
	cell := api.Cell{Row: slices.Clone(row), Lo: -farthest, Hi: threshold - 1}
	if sum >= threshold {
		cell.Lo, cell.Hi = threshold, farthest
	}
	return cell, api.OK
}

// Parts returns how many of the pictures that fit cells have a sum below a threshold, and how many have not.
func Parts(f api.Field, c []api.Cell, row []int, threshold int) (below, above int, e api.Errno) {
	if !ValidCells(f, c) || !validRow(f, row) {
		return 0, 0, api.ErrInvalid
	}
	if threshold < -farthest || threshold > farthest {
		return 0, 0, api.ErrRange
	}
	below, above = sides(counts(fitting(f, c), row)[0], threshold)
	return below, above, api.OK
}

// Halve returns the least threshold of a row with the least greater part.
func Halve(f api.Field, c []api.Cell, row []int) (int, api.Errno) {
	_, threshold, e := Next(f, c, [][]int{row})
	return threshold, e
}

// Next returns the first row, and its threshold by Halve, with the least greater part.
func Next(f api.Field, c []api.Cell, rows [][]int) (row, threshold int, e api.Errno) {
	if !ValidCells(f, c) || !validRows(f, rows) {
		return 0, 0, api.ErrInvalid
	}
	if len(rows) < 1 || len(rows) > maxChoice {
		return 0, 0, api.ErrRange
	}
	best := choose(fitting(f, c), rows)
	if best.greater == 0 {
		return 0, 0, api.ErrNone
	}
	return best.row, best.threshold, api.OK
}

// Play asks one bit after another of a hidden picture, each by Next, as long as something can be learned, and returns the cells.
func Play(f api.Field, rows [][]int, x []int, most int) ([]api.Cell, api.Errno) {
	if !ValidField(f) || !validRows(f, rows) {
		return nil, api.ErrInvalid
	}
	if e := shown(f, x); e != api.OK {
		return nil, e
	}
	if len(rows) < 1 || len(rows) > maxChoice || most < 0 || most > api.MaxCells {
		return nil, api.ErrRange
	}
	var cells []api.Cell
	for len(cells) < most {
		best := choose(fitting(f, cells), rows)
		// A single picture has nothing on its other side, either.
		if best.lesser == 0 {
			break
		}
		cell, _ := Bit(f, rows[best.row], x, best.threshold)
		cells = append(cells, cell)
	}
	return cells, api.OK
}

func validRows(f api.Field, rows [][]int) bool {
	return all(rows, func(row []int) bool { return validRow(f, row) })
}

// choose returns the first row's least threshold with the least greater part; this is 0 if there are no pictures.
func choose(pictures iter.Seq[[]int], rows [][]int) choice {
	var best choice
	for i, bySum := range counts(pictures, rows...) {
		c := halved(bySum)
		if i == 0 || c.greater < best.greater {
			c.row = i
			best = c
		}
	}
	return best
}

// halved leaves it to its caller which row the counts are of.
func halved(bySum map[int]int) choice {
	var best choice
	for threshold := 1 - farthest; threshold <= farthest; threshold++ {
		below, above := sides(bySum, threshold)
		greater, lesser := max(below, above), min(below, above)
		if threshold == 1-farthest || greater < best.greater {
			best = choice{threshold: threshold, greater: greater, lesser: lesser}
		}
	}
	return best
}

// counts returns for each row how many pictures have which sum.
func counts(pictures iter.Seq[[]int], rows ...[]int) []map[int]int {
	bySums := make([]map[int]int, len(rows))
	for i := range bySums {
		bySums[i] = map[int]int{}
	}
	for x := range pictures {
		for i, row := range rows {
			bySums[i][product(row, x)]++
		}
	}
	return bySums
}

// sides returns how many pictures have a sum below a threshold, and how many have not.
func sides(bySum map[int]int, threshold int) (below, above int) {
	for sum, n := range bySum {
		if sum < threshold {
			below += n
		} else {
			above += n
		}
	}
	return below, above
}
