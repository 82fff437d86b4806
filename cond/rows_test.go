package cond_test

import (
	"math"
	"slices"
	"strconv"
	"testing"

	"lightsieve/api"
	"lightsieve/cond"
	"lightsieve/mask"
)

func TestBetter(t *testing.T) {
	for _, c := range []struct {
		m    api.Mask
		rows [][]int
		want int
	}{
		{api.Mask{{1, 1, 0}}, [][]int{{0, 1, 1}}, 0}, {api.Mask{{1, 1, 0}}, [][]int{{0, 0, 0}, {1, 1, 0}, {0, 1, 1}, {1, 0, 1}}, 2}, {api.Mask{{1, 1, 0}}, [][]int{{0, 1, 1}, {0, 0, 0}}, 0}, {api.Mask{{1, 1, 0}}, [][]int{{0, 0, 0}, {0, 0, 0}}, 0}, {api.Mask{{1, 1, 0}}, [][]int{{0, 0, 1}, {1, -1, 0}, {0, 1, -1}}, 2},
		{two(), [][]int{{1, 1, 0}, {0, 1, 1}, {1, 0, -1}, {1, 0, 1}, {1, 0, 0}}, 3}, {two(), [][]int{{0, 0, 0}, {1, 1, 0}}, 0}, {api.Mask{{0}}, [][]int{{0}, {0}, {-1}, {1}}, 2}, {api.Mask{{1}}, [][]int{{0}, {1}}, 0}, {twice(), [][]int{{1, 1}, {1, -1}, {1, 0}}, 1},
		// The greatest number of rows, of the mask and to choose from.
		{full(5, 10, 0), slices.Repeat([][]int{filled(10, 0)}, 20), 0}, {full(5, 1, 0), append(slices.Repeat([][]int{{0}}, 19), []int{1}), 19}, {api.Mask{{1, 0, 0, 0, 0, 0}, {0, 1, 0, 0, 0, 0}, {0, 0, 1, 0, 0, 0}, {0, 0, 0, 1, 0, 0}, {0, 0, 0, 0, 1, 0}}, [][]int{{1, 1, 1, 1, 1, 0}, {0, 0, 0, 0, 1, 1}, {0, 0, 0, 0, 0, 1}}, 1},
	} {
		if i, e := cond.Better(c.m, c.rows); i != c.want || e != api.OK {
			t.Error("Better", c.m, c.rows, i, e)
		}
	}
}

func TestErrorsOfBetter(t *testing.T) {
	many := slices.Repeat([][]int{{1, 0, 1}}, 21)
	tall := full(6, 3, 1)
	for _, c := range []struct {
		m    api.Mask
		rows [][]int
		want api.Errno
	}{
		// A row that is none of a mask, alone and ahead of all others.
		{two(), [][]int{{1, 2, 1}}, api.ErrInvalid}, {two(), [][]int{{1, 0, 1}, {0, 0, -2}}, api.ErrInvalid}, {two(), [][]int{nil}, api.ErrInvalid}, {two(), [][]int{{}}, api.ErrInvalid}, {two(), [][]int{{1, 0, 1}, {}}, api.ErrInvalid}, {two(), [][]int{filled(11, 1)}, api.ErrInvalid}, {two(), [][]int{{math.MaxInt, 0, 0}}, api.ErrInvalid}, {two(), [][]int{{0, 0, math.MinInt}}, api.ErrInvalid}, {two(), append(slices.Clone(many), []int{2}), api.ErrInvalid}, {two(), [][]int{{1, 0}, {3}}, api.ErrInvalid}, {tall, [][]int{{2, 0, 0}}, api.ErrInvalid}, {tall, append(slices.Clone(many), nil), api.ErrInvalid},
		{two(), nil, api.ErrRange}, {two(), [][]int{}, api.ErrRange}, {two(), many, api.ErrRange}, {two(), slices.Repeat(many, 10), api.ErrRange}, {two(), slices.Repeat([][]int{{1}}, 21), api.ErrRange}, {two(), slices.Repeat([][]int{filled(10, 0)}, 21), api.ErrRange}, {tall, nil, api.ErrRange}, {tall, many, api.ErrRange},
		{two(), [][]int{{1}}, api.ErrSize}, {two(), [][]int{{1, 0}}, api.ErrSize}, {two(), [][]int{{1, 0, 1, 0}}, api.ErrSize}, {two(), [][]int{{1, 0, 1}, {0}}, api.ErrSize}, {two(), [][]int{filled(10, 0), {0, 0, 0}}, api.ErrSize}, {tall, [][]int{{1, 0}}, api.ErrSize}, {tall, [][]int{{1, 0, 0}, {1}}, api.ErrSize},
		{tall, [][]int{{1, 0, 0}}, api.ErrLimit}, {tall, many[:20], api.ErrLimit}, {full(6, 10, 0), [][]int{filled(10, 1)}, api.ErrLimit}, {units(6), [][]int{filled(6, 1)}, api.ErrLimit},
	} {
		if i, e := cond.Better(c.m, c.rows); i != 0 || e != c.want {
			t.Error("Better", c.m, c.rows, i, e)
		}
	}
	for _, m := range wrongMasks() {
		for _, rows := range [][][]int{nil, {{1}}, {{2}}, {{1, 0}}, many, {nil}} {
			if i, e := cond.Better(m, rows); i != 0 || e != api.ErrInvalid {
				t.Error("Better", m, rows, i, e)
			}
		}
	}
	if i, e := cond.Better(two(), many[:20]); i != 0 || e != api.OK {
		t.Error("Better of twenty rows", i, e)
	}
}

func TestBetterOfAnyMask(t *testing.T) {
	var s numbers
	told := map[int]int{}
	for _, m := range masks() {
		if len(m) == api.MaxRows || len(m[0]) > 7 || s.below(3) > 0 {
			continue
		}
		want, greatest := 0, -1
		rows := s.mask(1+s.below(6), len(m[0]))
		for i, row := range rows {
			longer := append(slices.Clone(m), row)
			if k := orderOf(longer); k > greatest {
				want, greatest = i, k
			}
		}
		if i, e := cond.Better(m, rows); i != want || e != api.OK {
			t.Fatal("Better", m, rows, i, e)
		}
		told[want]++
	}
	if len(told) < 6 || told[1] < 10 {
		t.Error("too few rows are told:", told)
	}
}

func TestRows(t *testing.T) {
	for _, c := range []struct {
		m    api.Mask
		want []int
	}{
		{two(), nil}, {twice(), []int{0, 1}}, {half(), nil}, {line(), nil}, {api.Mask{{0}}, nil}, {api.Mask{{1}}, nil}, {api.Mask{{0}, {0}}, []int{0, 1}}, {api.Mask{{1}, {0}}, []int{1}}, {api.Mask{{0}, {1}, {0}}, []int{0, 2}}, {api.Mask{{1}, {-1}}, []int{0, 1}}, {units(6), nil}, {full(6, 10, 0), upTo(6)}, {full(6, 10, 1), upTo(6)}, {steep(), nil},
		{api.Mask{{1, 1, 0}, {0, 1, 1}, {1, 0, -1}}, upTo(3)}, {api.Mask{{1, 1, 0}, {0, 1, 1}, {0, 0, 0}}, []int{2}}, {api.Mask{{0, 1, 0}, {1, 1, 0}, {0, 1, 1}, {0, 1, 1}}, []int{2, 3}}, {api.Mask{{1, 0}, {1, 1}, {0, 1}}, upTo(3)}, {api.Mask{{1, 0, 0}}, nil},
	} {
		if l, e := cond.Rows(c.m); !slices.Equal(l, c.want) || e != api.OK {
			t.Error("Rows", c.m, l, e)
		}
	}
}

func TestRowsOfAnyMask(t *testing.T) {
	for i, m := range masks() {
		if len(m) == 1 || len(m[0]) > 7 && i%5 > 0 {
			continue
		}
		var want []int
		for i := range m {
			if orderOf(slices.Concat(m[:i], m[i+1:])) == orderOf(m) {
				want = append(want, i)
			}
		}
		if l, e := cond.Rows(m); !slices.Equal(l, want) || e != api.OK {
			t.Fatal("Rows", m, l, e)
		}
	}
}

func TestReport(t *testing.T) {
	for _, c := range []struct {
		m    api.Mask
		want string
	}{
		{two(), "1 1/3\n2 2/3\norder 1\n"}, {twice(), "1 1/2\norder 0\n"}, {ring(5), "1 1/6\n2 1/3\n3 1/2\n4 2/3\n5 5/6\norder 2\n"}, {api.Mask{{1, 1, 1}, {1, -1, 0}}, "1 1/2\n2 3/4\norder 0\n"},
		// A share of 1 ends it, at once where there is a column of zeros.
		{line(), "order 0\n"}, {api.Mask{{0}}, "order 0\n"}, {full(6, 10, 0), "order 0\n"}, {api.Mask{{1, 1, 0}}, "order 0\n"},
		// No circuits.
		{api.Mask{{1}}, "1 0/1\norder 1\n"}, {half(), "1 0/1\n2 0/1\norder 2\n"}, {units(6), "1 0/1\n2 0/1\n3 0/1\n4 0/1\n5 0/1\n6 0/1\norder 6\n"},
	} {
		if s := cond.Report(c.m); s != c.want {
			t.Errorf("Report %v %q", c.m, s)
		}
	}
}

func TestReportOfAnyMask(t *testing.T) {
	for i, m := range masks() {
		if len(m[0]) > 7 && i%4 > 0 {
			continue
		}
		want, order := "", 0
		for k, s := range greatestUpTo(hiddenBy(m), len(m[0])) {
			if !s.isHalf() {
				order = k
			}
			r := s.lowest()
			if k > 0 && r != ratio(1, 1) {
				want += strconv.Itoa(k) + " " + strconv.Itoa(r.N) + "/" + strconv.Itoa(r.D) + "\n"
			}
		}
		want += "order " + strconv.Itoa(order) + "\n"
		if s := cond.Report(m); s != want {
			t.Fatalf("Report %v %q", m, s)
		}
	}
}

// A mask that is made longer by the row that is told has no lesser order than with any other.
func TestBetterIsStackedOn(t *testing.T) {
	var s numbers
	for _, m := range largeMasks() {
		rows := s.mask(6, len(m[0]))
		i, e := cond.Better(m, rows)
		if len(m) == api.MaxRows {
			continue
		}
		best, _ := mask.Stacked(m, api.Mask{rows[i]})
		order, _ := cond.Order(best)
		for j, row := range rows {
			longer, _ := mask.Stacked(m, api.Mask{row})
			k, _ := cond.Order(longer)
			if k > order || k == order && j < i || e != api.OK {
				t.Fatal("Better", m, rows, i, e)
			}
		}
	}
}
