package bit_test

import (
	"math"
	"slices"
	"testing"

	"lightsieve/api"
	"lightsieve/bit"
)

func sameCell(a, b api.Cell) bool {
	return a.Lo == b.Lo && a.Hi == b.Hi && slices.Equal(a.Row, b.Row)
}

func sameCells(a, b []api.Cell) bool {
	return slices.EqualFunc(a, b, sameCell)
}

func isZeroCell(c api.Cell) bool {
	return len(c.Row) == 0 && c.Lo == 0 && c.Hi == 0
}

func partsOf(pictures [][]int, row []int, threshold int) (below, above int) {
	for _, x := range pictures {
		if sumOf(row, x) < threshold {
			below++
		}
	}
	return below, len(pictures) - below
}

// halfOf is the first threshold with the least greater part, and this part.
func halfOf(pictures [][]int, row []int) (threshold, greater int) {
	greater = math.MaxInt
	for t := -99; t <= 100; t++ {
		below, above := partsOf(pictures, row, t)
		if max(below, above) < greater {
			threshold, greater = t, max(below, above)
		}
	}
	return threshold, greater
}

func bestOf(pictures [][]int, rows [][]int) (row, threshold, greater int) {
	greater = math.MaxInt
	for i, r := range rows {
		if t, g := halfOf(pictures, r); g < greater {
			row, threshold, greater = i, t, g
		}
	}
	return row, threshold, greater
}

// playOf asks as the document does.
func playOf(f api.Field, rows [][]int, x []int, most int) []api.Cell {
	var cells []api.Cell
	left := picturesOf(f)
	for len(left) > 1 && len(cells) < most {
		i, threshold, greater := bestOf(left, rows)
		if greater == len(left) {
			break
		}
		next := cell(-100, threshold-1, rows[i]...)
		if sumOf(rows[i], x) >= threshold {
			next = cell(threshold, 100, rows[i]...)
		}
		cells = append(cells, next)
		left = slices.DeleteFunc(left, func(p []int) bool { return !fitsAll(cells, p) })
	}
	return cells
}

func TestQuantised(t *testing.T) {
	plus, minus := filled(8, 1), filled(8, -1)
	for _, c := range []struct {
		row    []int
		value  int
		step   int
		lo, hi int
	}{
		{plus, 0, 1, 0, 0}, {plus, 0, 4, 0, 3}, {plus, 1, 8, 8, 15}, {plus, 1, 5, 5, 9}, {plus, 3, 7, 21, 27}, {plus, 3, 100, 0, 99}, {plus, 3, 24, 24, 47}, {plus, 3, 25, 0, 24},
		{minus, 0, 3, 0, 2}, {minus, 1, 1, -8, -8}, {minus, 1, 3, -9, -7}, {minus, 1, 8, -8, -1}, {minus, 1, 7, -14, -8}, {minus, 1, 9, -9, -1}, {minus, 3, 24, -24, -1}, {minus, 3, 23, -46, -24}, {minus, 3, 100, -100, -1},
	} {
		q, e := bit.Quantised(field(8, 3), c.row, filled(8, c.value), c.step)
		if !sameCell(q, cell(c.lo, c.hi, c.row...)) || e != api.OK {
			t.Error("Quantised", c, q, e)
		}
	}
}

// P7.3: a picture's own cells; they are the multiples of the step, and within the limits for all sums and steps.
func TestQuantisedIsItsOwn(t *testing.T) {
	for sum := -24; sum <= 24; sum++ {
		row, x := filled(8, 1), filled(8, 0)
		if sum < 0 {
			row = filled(8, -1)
		}
		for i := range max(sum, -sum) {
			x[i%8]++
		}
		for step := 1; step <= 100; step++ {
			q, e := bit.Quantised(field(8, 3), row, x, step)
			if e != api.OK || !bit.ValidCells(field(8, 3), []api.Cell{q}) || !slices.Equal(q.Row, row) {
				t.Fatal("Quantised", sum, step, q, e)
			}
			if q.Lo%step != 0 || q.Hi != q.Lo+step-1 || sum < q.Lo || q.Hi < sum {
				t.Fatal("Quantised", sum, step, q)
			}
			if fits, e := bit.Fits(field(8, 3), []api.Cell{q}, x); !fits || e != api.OK {
				t.Fatal("a picture does not fit its cell", sum, step, q, e)
			}
		}
	}
}

func TestQuantisedRange(t *testing.T) {
	for _, step := range []int{0, -1, -100, 101, 102, 1000, math.MaxInt, math.MinInt, 1<<32 + 1} {
		if q, e := bit.Quantised(two(), []int{1, 1}, []int{0, 1}, step); !isZeroCell(q) || e != api.ErrRange {
			t.Error("Quantised", step, q, e)
		}
	}
}

func TestBit(t *testing.T) {
	for _, c := range []struct {
		x         []int
		threshold int
		lo, hi    int
	}{
		{[]int{1, 0}, 1, 1, 100}, {[]int{1, 0}, 2, -100, 1}, {[]int{1, 0}, 0, 0, 100}, {[]int{0, 0}, 1, -100, 0}, {[]int{1, 1}, 100, -100, 99}, {[]int{1, 1}, -99, -99, 100}, {[]int{0, 0}, -98, -98, 100},
	} {
		b, e := bit.Bit(two(), []int{1, 1}, c.x, c.threshold)
		if !sameCell(b, cell(c.lo, c.hi, 1, 1)) || e != api.OK {
			t.Error("Bit", c, b, e)
		}
	}
	for _, threshold := range []int{-100, -101, 101, 102, 1000, math.MaxInt, math.MinInt, 1 << 32} {
		if b, e := bit.Bit(two(), []int{1, 1}, []int{0, 1}, threshold); !isZeroCell(b) || e != api.ErrRange {
			t.Error("Bit", threshold, b, e)
		}
	}
}

// P7.3: a picture's own bits; just the pictures on its side of the threshold fit one.
func TestBitIsItsOwn(t *testing.T) {
	for _, f := range []api.Field{two(), field(2, 3), field(3, 2), field(3, 0)} {
		for _, row := range rowsOf(f.Pixels) {
			for threshold := -99; threshold <= 100; threshold++ {
				for _, x := range picturesOf(f) {
					b, e := bit.Bit(f, row, x, threshold)
					fits, _ := bit.Fits(f, []api.Cell{b}, x)
					above := sumOf(row, x) >= threshold
					if e != api.OK || !fits || !slices.Equal(b.Row, row) || above && (b.Lo != threshold || b.Hi != 100) || !above && (b.Lo != -100 || b.Hi != threshold-1) {
						t.Fatal("Bit", f, row, x, threshold, b, e)
					}
				}
			}
		}
	}
}

// P7.2: the parts add up to Count.
func TestParts(t *testing.T) {
	s := numbers(5)
	for _, one := range samples() {
		row := s.list(one.f.Pixels, -1, 1)
		for _, threshold := range []int{-100, -99, -25, -3, -2, -1, 0, 1, 2, 3, 25, 99, 100} {
			below, above, e := bit.Parts(one.f, one.c, row, threshold)
			wantBelow, wantAbove := partsOf(one.fitting, row, threshold)
			if below != wantBelow || above != wantAbove || below+above != len(one.fitting) || e != api.OK {
				t.Fatal("Parts", one.f, one.c, row, threshold, below, above, e)
			}
			if len(one.fitting) > 1000 && threshold == 0 {
				break
			}
		}
	}
	for _, threshold := range []int{-101, 101, 1000, math.MaxInt, math.MinInt, 1 << 32} {
		if below, above, e := bit.Parts(two(), nil, []int{1, 1}, threshold); below != 0 || above != 0 || e != api.ErrRange {
			t.Error("Parts", threshold, below, above, e)
		}
	}
}

// P7.4: no threshold of the row leaves a lesser greater part, and no lesser one as little.
func TestHalve(t *testing.T) {
	s := numbers(9)
	for _, one := range samples() {
		if len(one.fitting) == 0 || len(one.fitting) > 1000 {
			continue
		}
		for _, row := range append(s.rows(2, one.f.Pixels), filled(one.f.Pixels, 1), filled(one.f.Pixels, 0)) {
			want, _ := halfOf(one.fitting, row)
			if threshold, e := bit.Halve(one.f, one.c, row); threshold != want || e != api.OK {
				t.Fatal("Halve", one.f, one.c, row, threshold, e)
			}
		}
	}
}

func TestHalveByParts(t *testing.T) {
	f := field(4, 2)
	c := []api.Cell{cell(2, 5, 1, 1, 1, 1), cell(-1, 2, 1, -1, 0, 1)}
	for _, row := range rowsOf(4) {
		least, e := bit.Halve(f, c, row)
		below, above, _ := bit.Parts(f, c, row, least)
		for threshold := -100; threshold <= 100; threshold++ {
			b, a, _ := bit.Parts(f, c, row, threshold)
			if max(b, a) < max(below, above) || max(b, a) == max(below, above) && threshold < least && threshold > -100 || e != api.OK {
				t.Error("Halve", row, least, e, threshold, b, a)
			}
		}
	}
}

func TestHalveExamples(t *testing.T) {
	one := []api.Cell{cell(1, 1, 1, 1)}
	for _, c := range []struct {
		f    api.Field
		c    []api.Cell
		row  []int
		want int
	}{
		{two(), one, []int{1, 0}, 1},
		// Both pictures have the sum 1: nothing can be learned.
		{two(), one, []int{1, 1}, -99},
		{two(), nil, []int{0, 0}, -99},
		{field(4, 0), nil, []int{1, 1, 1, -1}, -99},
		{field(8, 3), nil, filled(8, 0), -99},
		// Sums 0, 1, 1 and 2: three of four are on one side with both thresholds.
		{two(), nil, []int{1, 1}, 1},
		{two(), nil, []int{-1, -1}, -1},
		{two(), nil, []int{1, -1}, 0},
		{field(1, 3), nil, []int{1}, 2},
		// A single picture.
		{field(2, 3), []api.Cell{cell(6, 6, 1, 1)}, []int{1, 1}, -99},
		// Sums 0 and 3: all thresholds between them halve equally well.
		{field(3, 1), []api.Cell{cell(0, 0, 1, -1, 0), cell(0, 0, 0, 1, -1)}, []int{1, 1, 1}, 1},
		{field(3, 1), []api.Cell{cell(0, 0, 1, -1, 0), cell(0, 0, 0, 1, -1)}, []int{-1, -1, -1}, -2},
		// Sums 0, 2, 4 and 6.
		{field(8, 3), []api.Cell{cell(0, 0, 1, -1, 0, 0, 0, 0, 0, 0), cell(0, 0, 0, 0, 1, 1, 1, 1, 1, 1)}, []int{1, 1, 0, 0, 0, 0, 0, 0}, 3},
		{field(8, 3), nil, filled(8, 1), 12},
	} {
		if threshold, e := bit.Halve(c.f, c.c, c.row); threshold != c.want || e != api.OK {
			t.Error("Halve", c, threshold, e)
		}
	}
}

func TestNext(t *testing.T) {
	s := numbers(11)
	for _, one := range samples() {
		if len(one.fitting) == 0 || len(one.fitting) > 500 {
			continue
		}
		rows := s.rows(1+s.below(5), one.f.Pixels)
		wantRow, want, _ := bestOf(one.fitting, rows)
		if row, threshold, e := bit.Next(one.f, one.c, rows); row != wantRow || threshold != want || e != api.OK {
			t.Fatal("Next", one.f, one.c, rows, row, threshold, e)
		}
		if threshold, e := bit.Halve(one.f, one.c, rows[wantRow]); threshold != want || e != api.OK {
			t.Fatal("Halve of Next", one.f, one.c, rows, threshold, e)
		}
	}
}

func TestNextExamples(t *testing.T) {
	for _, c := range []struct {
		f              api.Field
		c              []api.Cell
		rows           [][]int
		row, threshold int
	}{
		{two(), nil, [][]int{{1, 1}, {1, 0}}, 1, 1},
		{two(), nil, [][]int{{1, 0}, {1, 1}}, 0, 1},
		{two(), nil, [][]int{{0, -1}, {1, 0}, {0, 1}}, 0, 0},
		{two(), nil, [][]int{{1, 1}, {0, 1}, {1, 0}}, 1, 1},
		{two(), nil, [][]int{{0, 0}, {0, 0}}, 0, -99},
		{two(), []api.Cell{cell(1, 1, 1, 1)}, [][]int{{1, 1}, {0, 0}}, 0, -99},
		{two(), []api.Cell{cell(1, 1, 1, 1)}, [][]int{{1, 1}, {0, 0}, {1, -1}}, 2, 0},
		{two(), []api.Cell{cell(2, 2, 1, 1)}, [][]int{{1, 1}, {1, 0}}, 0, -99},
		{field(3, 0), nil, [][]int{{1, 1, 1}}, 0, -99},
		{two(), nil, append(slices.Repeat([][]int{{1, 1}}, 19), []int{0, 1}), 19, 1},
		{two(), nil, slices.Repeat([][]int{{1, 1}}, 20), 0, 1},
	} {
		if row, threshold, e := bit.Next(c.f, c.c, c.rows); row != c.row || threshold != c.threshold || e != api.OK {
			t.Error("Next", c, row, threshold, e)
		}
	}
}

func TestPlay(t *testing.T) {
	s := numbers(13)
	for _, f := range smallFields() {
		for range 4 {
			rows := s.rows(1+s.below(4), f.Pixels)
			for _, most := range []int{0, 1, 2, 3, 30} {
				for range 3 {
					x := s.list(f.Pixels, 0, f.Top)
					cells, e := bit.Play(f, rows, x, most)
					if !sameCells(cells, playOf(f, rows, x, most)) || e != api.OK {
						t.Fatal("Play", f, rows, x, most, cells, e)
					}
				}
			}
		}
	}
}

// P7.3: a picture fits what was asked of it, and there is a reason why no more was.
func TestPlayEnds(t *testing.T) {
	s := numbers(17)
	for _, f := range append(smallFields(), field(8, 1), field(5, 2), field(8, 3)) {
		for _, most := range []int{0, 1, 5, 30} {
			rows := s.rows(1+s.below(20), f.Pixels)
			x := s.list(f.Pixels, 0, f.Top)
			cells, e := bit.Play(f, rows, x, most)
			fits, g := bit.Fits(f, cells, x)
			if e != api.OK || !fits || g != api.OK || len(cells) > most {
				t.Fatal("Play", f, rows, x, most, cells, e, fits, g)
			}
			n, _ := bit.Count(f, cells)
			if n > 1 && len(cells) < most && canLearn(f, cells, rows) {
				t.Fatal("Play ends", f, rows, x, most, cells)
			}
			for i := range cells {
				many, _ := bit.Count(f, cells[:i])
				if few, _ := bit.Count(f, cells[:i+1]); few >= many {
					t.Fatal("Play asks for nothing", f, rows, x, most, cells, i)
				}
			}
		}
	}
}

// canLearn asks all thresholds that may part sums from -24 to 24.
func canLearn(f api.Field, cells []api.Cell, rows [][]int) bool {
	left := fittingOf(f, cells)
	for _, row := range rows {
		for threshold := -25; threshold <= 25; threshold++ {
			if below, above := partsOf(left, row, threshold); below > 0 && above > 0 {
				return true
			}
		}
	}
	return false
}

func TestPlayExamples(t *testing.T) {
	units := [][]int{{1, 0}, {0, 1}}
	for _, c := range []struct {
		f    api.Field
		rows [][]int
		x    []int
		most int
		want []api.Cell
	}{
		{two(), units, []int{0, 1}, 30, []api.Cell{cell(-100, 0, 1, 0), cell(1, 100, 0, 1)}},
		{two(), units, []int{0, 1}, 1, []api.Cell{cell(-100, 0, 1, 0)}},
		{two(), units, []int{0, 1}, 0, nil},
		// The sums 1 of two pictures stay together.
		{two(), [][]int{{1, 1}}, []int{0, 1}, 30, []api.Cell{cell(1, 100, 1, 1), cell(-100, 1, 1, 1)}},
		{two(), [][]int{{1, 1}}, []int{0, 0}, 30, []api.Cell{cell(-100, 0, 1, 1)}},
		{two(), [][]int{{0, 0}}, []int{1, 1}, 30, nil},
		{two(), slices.Repeat([][]int{{0, 0}}, 20), []int{1, 1}, 30, nil},
		{field(3, 0), [][]int{{1, 1, 1}}, []int{0, 0, 0}, 30, nil},
		{field(1, 3), [][]int{{1}}, []int{3}, 30, []api.Cell{cell(2, 100, 1), cell(3, 100, 1)}},
		{field(1, 3), [][]int{{-1}}, []int{1}, 30, []api.Cell{cell(-1, 100, -1), cell(-100, -1, -1)}},
		{field(1, 3), [][]int{{0}, {1}}, []int{0}, 2, []api.Cell{cell(-100, 1, 1), cell(-100, 0, 1)}},
	} {
		if cells, e := bit.Play(c.f, c.rows, c.x, c.most); !sameCells(cells, c.want) || e != api.OK {
			t.Error("Play", c, cells, e)
		}
	}
}

func TestPlayRange(t *testing.T) {
	for _, most := range []int{-1, 31, 32, 100, math.MaxInt, math.MinInt, 1 << 32} {
		if cells, e := bit.Play(two(), [][]int{{1, 0}}, []int{0, 1}, most); len(cells) != 0 || e != api.ErrRange {
			t.Error("Play", most, cells, e)
		}
	}
}

func TestHowManyRows(t *testing.T) {
	for _, n := range []int{0, 21, 22, 100} {
		rows := slices.Repeat([][]int{{1, 0}}, n)
		if row, threshold, e := bit.Next(two(), nil, rows); row != 0 || threshold != 0 || e != api.ErrRange {
			t.Error("Next", n, row, threshold, e)
		}
		if cells, e := bit.Play(two(), rows, []int{0, 1}, 5); len(cells) != 0 || e != api.ErrRange {
			t.Error("Play", n, cells, e)
		}
	}
}
