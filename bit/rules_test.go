package bit_test

import (
	"slices"
	"testing"

	"lightsieve/api"
	"lightsieve/bit"
)

const mark = 12321

// question is what a call is handed.
type question struct {
	f                            api.Field
	c                            []api.Cell
	rows                         [][]int
	row, x                       []int
	pixel, step, threshold, most int
}

// result is what a call answers: the lists and the cells themselves.
type result struct {
	lists   [][]int
	cells   []api.Cell
	numbers []int
	text    string
	e       api.Errno
}

func ofTruth(is bool, e api.Errno) result {
	if is {
		return result{numbers: []int{1}, e: e}
	}
	return result{numbers: []int{0}, e: e}
}

func calls() map[string]func(q question) result {
	list := func(l []int, e api.Errno) result { return result{lists: [][]int{l}, e: e} }
	number := func(n int, e api.Errno) result { return result{numbers: []int{n}, e: e} }
	pair := func(a, b int, e api.Errno) result { return result{numbers: []int{a, b}, e: e} }
	span := func(s api.Span, e api.Errno) result { return pair(s.Lo, s.Hi, e) }
	one := func(c api.Cell, e api.Errno) result { return result{cells: []api.Cell{c}, e: e} }
	return map[string]func(q question) result{
		"ValidField": func(q question) result { return ofTruth(bit.ValidField(q.f), api.OK) },
		"ValidCells": func(q question) result { return ofTruth(bit.ValidCells(q.f, q.c), api.OK) },
		"Pictures":   func(q question) result { return number(bit.Pictures(q.f)) },
		"Sum":        func(q question) result { return number(bit.Sum(q.f, q.row, q.x)) },
		"Sight":      func(q question) result { return span(bit.Sight(q.f, q.row)) },
		"Fits":       func(q question) result { return ofTruth(bit.Fits(q.f, q.c, q.x)) },
		"Count":      func(q question) result { return number(bit.Count(q.f, q.c)) },
		"First":      func(q question) result { return list(bit.First(q.f, q.c)) },
		"Bounds":     func(q question) result { return span(bit.Bounds(q.f, q.c, q.pixel)) },
		"Known":      func(q question) result { return list(bit.Known(q.f, q.c)) },
		"Quantised":  func(q question) result { return one(bit.Quantised(q.f, q.row, q.x, q.step)) },
		"Bit":        func(q question) result { return one(bit.Bit(q.f, q.row, q.x, q.threshold)) },
		"Parts":      func(q question) result { return pair(bit.Parts(q.f, q.c, q.row, q.threshold)) },
		"Halve":      func(q question) result { return number(bit.Halve(q.f, q.c, q.row)) },
		"Next":       func(q question) result { return pair(bit.Next(q.f, q.c, q.rows)) },
		"Idle":       func(q question) result { return list(bit.Idle(q.f, q.c)) },
		"Clash":      func(q question) result { return list(bit.Clash(q.f, q.c)) },
		"Play": func(q question) result {
			cells, e := bit.Play(q.f, q.rows, q.x, q.most)
			return result{cells: cells, e: e}
		},
		"Format": func(q question) result { return result{text: bit.Format(q.c)} },
		"Parse": func(q question) result {
			cells, line, e := bit.Parse(bit.Format(q.c))
			return result{cells: cells, numbers: []int{line}, e: e}
		},
	}
}

// memory is all that the slices of a result hold, with what lies behind them.
func (r result) memory() [][]int {
	var all [][]int
	for _, l := range r.lists {
		all = append(all, l[:cap(l)])
	}
	for _, c := range r.cells {
		all = append(all, c.Row[:cap(c.Row)])
	}
	return all
}

func copyOfCells(c []api.Cell) []api.Cell {
	var all []api.Cell
	for _, one := range c {
		all = append(all, cell(one.Lo, one.Hi, slices.Clone(one.Row)...))
	}
	return all
}

func copyOf(lists [][]int) [][]int {
	var all [][]int
	for _, l := range lists {
		all = append(all, slices.Clone(l))
	}
	return all
}

func (r result) copy() result {
	return result{copyOf(r.lists), copyOfCells(r.cells), slices.Clone(r.numbers), r.text, r.e}
}

func (r result) equal(s result) bool {
	return r.e == s.e && r.text == s.text && slices.Equal(r.numbers, s.numbers) && equalLists(r.lists, s.lists) && sameCells(r.cells, s.cells)
}

// isZero is asked of results together with an error.
func (r result) isZero() bool {
	list := func(l []int) bool { return len(l) != 0 }
	cell := func(c api.Cell) bool { return !isZeroCell(c) }
	number := func(n int) bool { return n != 0 }
	return !slices.ContainsFunc(r.lists, list) && !slices.ContainsFunc(r.cells, cell) && !slices.ContainsFunc(r.numbers, number)
}

func equalLists(a, b [][]int) bool {
	return slices.EqualFunc(a, b, func(x, y []int) bool { return slices.Equal(x, y) })
}

func spare(l []int) []int {
	return append(slices.Clone(l), mark, mark, mark, mark)[:len(l)]
}

// spared is a question with spare capacity behind each slice.
func (q question) spared() question {
	cells := make([]api.Cell, 0, len(q.c)+4)
	for _, c := range q.c {
		cells = append(cells, api.Cell{Row: spare(c.Row), Lo: c.Lo, Hi: c.Hi})
	}
	rows := make([][]int, 0, len(q.rows)+4)
	for _, row := range q.rows {
		rows = append(rows, spare(row))
	}
	q.c = append(cells, cell(mark, mark, mark), cell(mark, mark, mark))[:len(cells)]
	q.rows = append(rows, []int{mark}, []int{mark})[:len(rows)]
	q.row, q.x = spare(q.row), spare(q.x)
	return q
}

// memory is all that the slices of a question hold, with what lies behind them.
func (q question) memory() [][]int {
	all := [][]int{q.row[:cap(q.row)], q.x[:cap(q.x)]}
	for _, row := range q.rows[:cap(q.rows)] {
		all = append(all, row[:cap(row)])
	}
	for _, c := range q.c[:cap(q.c)] {
		all = append(all, c.Row[:cap(c.Row)])
	}
	return all
}

// kept is a copy of a question, also of what lies behind its slices.
func (q question) kept() result {
	return result{lists: copyOf(q.memory()), cells: copyOfCells(q.c[:cap(q.c)])}
}

func scribble(lists [][]int) {
	for _, l := range lists {
		for i := range l {
			l[i] = -mark
		}
	}
}

func questions() []question {
	return []question{
		right(),
		{f: two(), c: none()[0], rows: [][]int{{1, 1}}, row: []int{1, -1}, x: []int{0, 0}, pixel: 0, step: 100, threshold: -99, most: 30},
		{f: two(), rows: [][]int{{1, 1}, {0, 1}}, row: []int{0, 0}, x: []int{1, 1}, pixel: 1, step: 1, threshold: 100, most: 0},
		{f: field(3, 0), c: []api.Cell{cell(0, 0, 1, 1, 1)}, rows: [][]int{{1, 1, 0}}, row: []int{1, 0, 1}, x: []int{0, 0, 0}, pixel: 2, step: 3, threshold: 0, most: 5},
		{f: field(3, 2), c: []api.Cell{cell(1, 4, 1, 1, 1), cell(-1, 1, 1, 0, -1), cell(5, 6, 1, 0, 0)}, rows: [][]int{{1, 1, 0}, {1, 0, 0}, {0, 0, 1}}, row: []int{-1, 0, 1}, x: []int{2, 0, 1}, pixel: 1, step: 2, threshold: -1, most: 4},
		{f: field(8, 3), c: []api.Cell{cell(20, 24, filled(8, 1)...)}, rows: [][]int{filled(8, 1), unit(8, 3)}, row: filled(8, -1), x: filled(8, 3), pixel: 7, step: 7, threshold: -20, most: 6},
		{f: two(), c: []api.Cell{cell(0, 1, 1, 2)}, rows: [][]int{{1, 3}}, row: []int{5, 1}, x: []int{7, 1}, pixel: 3, step: 0, threshold: 101, most: 31},
		{f: field(9, 1), c: []api.Cell{cell(0, 1, 1)}, rows: [][]int{{1}}, row: []int{1}, x: []int{1}},
	}
}

// right is a question of which no part is wrong.
func right() question {
	return question{f: two(), c: []api.Cell{cell(1, 1, 1, 1), cell(0, 2, 1, 1)}, rows: [][]int{{1, 0}, {1, 1}}, row: []int{1, 0}, x: []int{1, 0}, pixel: 1, step: 5, threshold: 1, most: 3}
}

// R4 and R7: a call leaves its arguments alone, what it answers is its own, list by list, and a second call answers the same.
func TestArgumentsAreLeftAlone(t *testing.T) {
	for name, call := range calls() {
		for _, q := range questions() {
			checkCall(t, name, call, q.spared())
		}
	}
}

func checkCall(t *testing.T, name string, call func(q question) result, q question) {
	t.Helper()
	kept := q.kept()
	first := call(q)
	want := first.copy()
	second := call(q)
	if !second.equal(want) {
		t.Error(name, "answers", want, "and then", second)
	}
	scribble(second.memory())
	clear(second.cells)
	if !q.kept().equal(kept) {
		t.Error(name, "changes its arguments, or answers their memory", q)
	}
	scribble(q.memory())
	clear(q.c[:cap(q.c)])
	clear(q.rows[:cap(q.rows)])
	if !first.equal(want) {
		t.Error(name, "keeps its arguments, or answers the same memory twice", q)
	}
	checkApart(t, name, first)
}

// checkApart writes over one list after another, with its spare capacity, and looks at those behind it.
func checkApart(t *testing.T, name string, r result) {
	t.Helper()
	lists := r.memory()
	kept := copyOf(lists)
	for i := range lists {
		scribble(lists[i : i+1])
		if !equalLists(lists[i+1:], kept[i+1:]) {
			t.Error(name, "answers lists that share memory")
		}
	}
}

func TestNilAndEmptyAreAlike(t *testing.T) {
	q, r := right(), right()
	for name, call := range calls() {
		q.c, r.c = nil, []api.Cell{}
		if !call(q).equal(call(r)) {
			t.Error(name, "of no cells", call(q), call(r))
		}
	}
	q.rows, r.rows, q.row, r.row, q.x, r.x = nil, [][]int{}, nil, []int{}, nil, []int{}
	for name, call := range calls() {
		if !call(q).equal(call(r)) {
			t.Error(name, "of nothing", call(q), call(r))
		}
	}
	q.rows, r.rows, q.c, r.c = [][]int{nil}, [][]int{{}}, []api.Cell{cell(0, 1)}, []api.Cell{{Row: []int{}, Hi: 1}}
	for name, call := range calls() {
		if !call(q).equal(call(r)) {
			t.Error(name, "of empty rows", call(q), call(r))
		}
	}
}
