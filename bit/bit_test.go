package bit_test

import (
	"math"
	"slices"
	"testing"

	"lightsieve/api"
	"lightsieve/bit"
)

// two is the field of the document's examples.
func two() api.Field {
	return field(2, 1)
}

func field(pixels, top int) api.Field {
	return api.Field{Pixels: pixels, Top: top}
}

func cell(lo, hi int, row ...int) api.Cell {
	return api.Cell{Row: row, Lo: lo, Hi: hi}
}

func filled(n, value int) []int {
	return slices.Repeat([]int{value}, n)
}

// unit is a row that sees one pixel alone.
func unit(n, pixel int) []int {
	row := filled(n, 0)
	row[pixel] = 1
	return row
}

// numbers is a fixed row of numbers that look like chance.
type numbers uint64

func (s *numbers) below(n int) int {
	*s = *s*6364136223846793005 + 1442695040888963407
	return int(uint64(*s)>>33) % n
}

func (s *numbers) from(lo, hi int) int {
	return lo + s.below(hi-lo+1)
}

func (s *numbers) list(n, lo, hi int) []int {
	l := make([]int, n)
	for i := range l {
		l[i] = s.from(lo, hi)
	}
	return l
}

func (s *numbers) rows(count, n int) [][]int {
	rows := make([][]int, count)
	for i := range rows {
		rows[i] = s.list(n, -1, 1)
	}
	return rows
}

// cells have bounds about the sums of a field's pictures.
func (s *numbers) cells(f api.Field, count int) []api.Cell {
	reach := f.Pixels*f.Top/2 + 1
	cells := make([]api.Cell, count)
	for i := range cells {
		a, b := s.from(-reach, reach), s.from(-reach, reach)
		cells[i] = cell(min(a, b), max(a, b), s.list(f.Pixels, -1, 1)...)
	}
	return cells
}

// around are cells that a picture fits.
func (s *numbers) around(f api.Field, x []int, count int) []api.Cell {
	cells := make([]api.Cell, count)
	for i := range cells {
		row := s.list(f.Pixels, -1, 1)
		cells[i] = cell(sumOf(row, x)-s.below(3), sumOf(row, x)+s.below(3), row...)
	}
	return cells
}

// picturesOf are the numbers up to so many, written with a digit for each pixel.
func picturesOf(f api.Field) [][]int {
	count := 1
	for range f.Pixels {
		count *= f.Top + 1
	}
	all := make([][]int, count)
	for n := range all {
		x := make([]int, f.Pixels)
		for i, rest := f.Pixels-1, n; i >= 0; i-- {
			x[i] = rest % (f.Top + 1)
			rest /= f.Top + 1
		}
		all[n] = x
	}
	return all
}

// rowsOf are all rows for so many pixels.
func rowsOf(pixels int) [][]int {
	var rows [][]int
	for _, x := range picturesOf(field(pixels, 2)) {
		row := make([]int, pixels)
		for i, n := range x {
			row[i] = n - 1
		}
		rows = append(rows, row)
	}
	return rows
}

func sumOf(row, x []int) int {
	sum := 0
	for i := range row {
		sum += row[i] * x[i]
	}
	return sum
}

func fitsAll(c []api.Cell, x []int) bool {
	for _, one := range c {
		if sum := sumOf(one.Row, x); sum < one.Lo || one.Hi < sum {
			return false
		}
	}
	return true
}

func fittingOf(f api.Field, c []api.Cell) [][]int {
	var fitting [][]int
	for _, x := range picturesOf(f) {
		if fitsAll(c, x) {
			fitting = append(fitting, x)
		}
	}
	return fitting
}

// sample is a field with cells, and the pictures that fit them.
type sample struct {
	f       api.Field
	c       []api.Cell
	fitting [][]int
}

func newSample(f api.Field, c []api.Cell) sample {
	return sample{f, c, fittingOf(f, c)}
}

// smallFields are all with up to 64 pictures.
func smallFields() []api.Field {
	var fields []api.Field
	for pixels := 1; pixels <= api.MaxBits; pixels++ {
		for top := range api.MaxTop + 1 {
			if math.Pow(float64(top+1), float64(pixels)) <= 64 {
				fields = append(fields, field(pixels, top))
			}
		}
	}
	return fields
}

// oneCells are all single cells of a small field, with bounds beyond its sums, too.
func oneCells(f api.Field) []sample {
	var samples []sample
	reach := f.Pixels*f.Top + 1
	for _, row := range rowsOf(f.Pixels) {
		for lo := -reach; lo <= reach; lo++ {
			for hi := lo; hi <= reach; hi++ {
				samples = append(samples, newSample(f, []api.Cell{cell(lo, hi, row...)}))
			}
		}
	}
	return samples
}

// samples have no cells, single ones, several ones, some that no picture fits, and as many as there may be.
func samples() []sample {
	var s numbers
	var all []sample
	for _, f := range smallFields() {
		all = append(all, newSample(f, nil))
		for range 12 {
			all = append(all, newSample(f, s.cells(f, 1)), newSample(f, s.cells(f, 1+s.below(5))), newSample(f, s.around(f, s.list(f.Pixels, 0, f.Top), s.below(7))))
		}
		all = append(all, newSample(f, s.around(f, s.list(f.Pixels, 0, f.Top), api.MaxCells)), newSample(f, s.cells(f, api.MaxCells)))
	}
	for _, f := range []api.Field{field(1, 1), field(1, 3), field(2, 1), field(2, 2)} {
		all = append(all, oneCells(f)...)
	}
	return append(all, largeSamples()...)
}

func largeSamples() []sample {
	s := numbers(7)
	f := field(api.MaxBits, api.MaxTop)
	all := []sample{newSample(f, nil), newSample(f, s.cells(f, 3)), newSample(f, s.around(f, s.list(8, 0, 3), 4)), newSample(f, s.around(f, s.list(8, 0, 3), 30))}
	for _, f := range []api.Field{field(8, 1), field(7, 1), field(4, 3), field(5, 2)} {
		for range 5 {
			all = append(all, newSample(f, s.around(f, s.list(f.Pixels, 0, f.Top), 1+s.below(6))))
		}
	}
	return all
}

func wrongFields() []api.Field {
	return []api.Field{
		{}, field(0, 1), field(0, 3), field(9, 0), field(9, 1), field(10, 3), field(-1, 1), field(1, -1), field(8, -1), field(1, 4), field(8, 4), field(2, -3),
		field(math.MaxInt, 1), field(math.MinInt, 1), field(1, math.MaxInt), field(1, math.MinInt), field(math.MaxInt, math.MaxInt), field(257, 1), field(1<<32+1, 1), field(1, 1<<32), field(1, 256),
	}
}

// wrongRows are no rows for two pixels.
func wrongRows() [][]int {
	return [][]int{nil, {}, {1}, {1, 0, 1}, {0, 0, 0}, filled(8, 0), filled(1000, 1), {2, 0}, {0, -2}, {1, 2}, {3, 3}, {math.MaxInt, 0}, {0, math.MinInt}, {256, 0}, {1, 1 << 32}, {1, 1<<32 + 1}}
}

// wrongCells are no cells for two pixels, each for itself.
func wrongCells() []api.Cell {
	cells := []api.Cell{
		{}, cell(1, 0, 1, 1), cell(0, -1, 1, 1), cell(-101, 0, 1, 1), cell(-101, 100, 1, 1), cell(0, 101, 1, 1), cell(-100, 101, 1, 1), cell(101, 101, 1, 1), cell(-101, -101, 1, 1),
		cell(100, -100, 0, 0), cell(math.MinInt, math.MaxInt, 1, 1), cell(math.MinInt, 0, 1, 1), cell(0, math.MaxInt, 1, 1), cell(math.MaxInt, math.MinInt, 1, 1), cell(1<<32, 1<<32, 1, 1), cell(0, 1<<32+1, 1, 1),
	}
	for _, row := range wrongRows() {
		cells = append(cells, cell(0, 1, row...))
	}
	return cells
}

func TestValidField(t *testing.T) {
	for pixels := -2; pixels <= 12; pixels++ {
		for top := -2; top <= 6; top++ {
			want := pixels >= 1 && pixels <= 8 && top >= 0 && top <= 3
			if bit.ValidField(field(pixels, top)) != want {
				t.Error("ValidField", pixels, top, !want)
			}
		}
	}
	for _, f := range wrongFields() {
		if bit.ValidField(f) {
			t.Error("ValidField", f)
		}
	}
}

func TestValidCells(t *testing.T) {
	for _, s := range samples() {
		if !bit.ValidCells(s.f, s.c) {
			t.Error("ValidCells", s.f, s.c)
		}
	}
	right := cell(-100, 100, -1, 1)
	for _, c := range [][]api.Cell{nil, {}, {right}, {right, right}, {cell(-100, -100, 0, 0)}, {cell(100, 100, 0, -1)}, slices.Repeat([]api.Cell{right}, 30)} {
		if !bit.ValidCells(two(), c) || !bit.ValidCells(field(2, 0), c) {
			t.Error("ValidCells", c)
		}
		if len(c) > 0 && (bit.ValidCells(field(1, 1), c) || bit.ValidCells(field(3, 1), c)) {
			t.Error("ValidCells of another length", c)
		}
	}
	for _, n := range []int{31, 32, 100, 1000} {
		if bit.ValidCells(two(), slices.Repeat([]api.Cell{right}, n)) {
			t.Error("ValidCells", n)
		}
	}
	for _, wrong := range wrongCells() {
		for _, c := range [][]api.Cell{{wrong}, {right, wrong}, {wrong, right}, {right, wrong, right}} {
			if bit.ValidCells(two(), c) {
				t.Error("ValidCells", c)
			}
		}
	}
	for _, f := range wrongFields() {
		for _, c := range [][]api.Cell{nil, {}, {cell(0, 1)}, {cell(0, 1, 1)}, {cell(0, 1, filled(9, 1)...)}, {cell(0, 1, filled(10, 1)...)}} {
			if bit.ValidCells(f, c) {
				t.Error("ValidCells", f, c)
			}
		}
	}
}

func TestPictures(t *testing.T) {
	for _, c := range []struct{ pixels, top, want int }{
		{1, 0, 1}, {8, 0, 1}, {1, 1, 2}, {2, 1, 4}, {8, 1, 256}, {1, 2, 3}, {8, 2, 6561}, {1, 3, 4}, {7, 3, 16384}, {8, 3, 65536},
	} {
		if n, e := bit.Pictures(field(c.pixels, c.top)); n != c.want || e != api.OK {
			t.Error("Pictures", c, n, e)
		}
	}
	for _, f := range smallFields() {
		if n, e := bit.Pictures(f); n != len(picturesOf(f)) || e != api.OK {
			t.Error("Pictures", f, n, e)
		}
	}
}

func TestSumAndSight(t *testing.T) {
	for _, f := range smallFields() {
		rows := rowsOf(min(f.Pixels, 4))
		if f.Pixels > 4 {
			rows = (new(numbers)).rows(20, f.Pixels)
		}
		for _, row := range append(rows, filled(f.Pixels, 0), filled(f.Pixels, 1), filled(f.Pixels, -1)) {
			var sums []int
			for _, x := range picturesOf(f) {
				sum, e := bit.Sum(f, row, x)
				if sum != sumOf(row, x) || e != api.OK {
					t.Fatal("Sum", f, row, x, sum, e)
				}
				sums = append(sums, sum)
			}
			want := api.Span{Lo: slices.Min(sums), Hi: slices.Max(sums)}
			if sight, e := bit.Sight(f, row); sight != want || e != api.OK {
				t.Fatal("Sight", f, row, sight, e)
			}
		}
	}
}

func TestSightExamples(t *testing.T) {
	for _, c := range []struct {
		f      api.Field
		row    []int
		lo, hi int
	}{
		{two(), []int{1, 1}, 0, 2}, {two(), []int{1, -1}, -1, 1}, {two(), []int{-1, -1}, -2, 0}, {two(), []int{0, 0}, 0, 0}, {field(2, 3), []int{0, 0}, 0, 0}, {field(3, 0), []int{1, -1, 1}, 0, 0},
		{field(8, 3), filled(8, 1), 0, 24}, {field(8, 3), filled(8, -1), -24, 0}, {field(8, 3), []int{1, -1, 1, -1, 1, -1, 0, -1}, -12, 9}, {field(8, 2), filled(8, 0), 0, 0},
	} {
		if s, e := bit.Sight(c.f, c.row); s.Lo != c.lo || s.Hi != c.hi || e != api.OK {
			t.Error("Sight", c, s, e)
		}
	}
}

func TestFits(t *testing.T) {
	for _, s := range samples() {
		for i, x := range picturesOf(s.f) {
			if i > 300 {
				break
			}
			if fits, e := bit.Fits(s.f, s.c, x); fits != fitsAll(s.c, x) || e != api.OK {
				t.Fatal("Fits", s.f, s.c, x, fits, e)
			}
		}
	}
	zeros := []int{0, 0, 0}
	for _, c := range []struct {
		cell api.Cell
		want bool
	}{{cell(0, 0, 1, -1, 1), true}, {cell(-100, 100, 1, 1, 1), true}, {cell(1, 100, 1, 1, 1), false}, {cell(-100, -1, 0, 0, 0), false}} {
		if fits, e := bit.Fits(field(3, 0), []api.Cell{c.cell}, zeros); fits != c.want || e != api.OK {
			t.Error("Fits of zeros", c, fits, e)
		}
	}
}
