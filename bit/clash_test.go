package bit_test

import (
	"slices"
	"testing"

	"lightsieve/api"
	"lightsieve/bit"
)

// setsOf are all sets of numbers below n, ordered by how many these are and then by their lists.
func setsOf(n int) [][]int {
	var all [][]int
	for bits := range 1 << n {
		var set []int
		for i := range n {
			if bits>>i&1 == 1 {
				set = append(set, i)
			}
		}
		all = append(all, set)
	}
	slices.SortFunc(all, func(a, b []int) int {
		if len(a) != len(b) {
			return len(a) - len(b)
		}
		return slices.Compare(a, b)
	})
	return all
}

func chosen(c []api.Cell, indexes []int) []api.Cell {
	var part []api.Cell
	for _, i := range indexes {
		part = append(part, c[i])
	}
	return part
}

func without(c []api.Cell, i int) []api.Cell {
	return slices.Concat(c[:i], c[i+1:])
}

// clashOf is nil if some picture fits all cells.
func clashOf(f api.Field, c []api.Cell) []int {
	pictures := picturesOf(f)
	for _, set := range setsOf(len(c)) {
		part := chosen(c, set)
		if !slices.ContainsFunc(pictures, func(x []int) bool { return fitsAll(part, x) }) {
			return set
		}
	}
	return nil
}

// needed are twelve cells that no picture fits, and of which each one is needed for it: one for each way that the first three pixels may be, and four others.
func needed() (api.Field, []api.Cell) {
	return field(7, 1), []api.Cell{
		cell(1, 9, 1, 1, 1, 1, 0, 0, 0), cell(0, 9, 1, 1, -1, 0, 1, 0, 0), cell(0, 9, 1, -1, 1, 0, 0, 1, 0), cell(-1, 9, 1, -1, -1, 0, 0, 0, 1),
		cell(0, 9, -1, 1, 1, 0, 0, 0, 0), cell(-1, 9, -1, 1, -1, 0, 0, 0, 0), cell(-1, 9, -1, -1, 1, 0, 0, 0, 0), cell(-2, 9, -1, -1, -1, 0, 0, 0, 0),
		cell(0, 0, unit(7, 3)...), cell(0, 0, unit(7, 4)...), cell(0, 0, unit(7, 5)...), cell(0, 0, unit(7, 6)...),
	}
}

func TestIdle(t *testing.T) {
	for _, s := range samples() {
		if len(s.fitting) > 1000 {
			continue
		}
		var want []int
		for i := range s.c {
			if n, _ := bit.Count(s.f, without(s.c, i)); n == len(s.fitting) {
				want = append(want, i)
			}
		}
		if l, e := bit.Idle(s.f, s.c); !slices.Equal(l, want) || e != api.OK {
			t.Fatal("Idle", s.f, s.c, l, e)
		}
	}
}

// P7.5: an idle cell may be taken away.
func TestIdleMayGo(t *testing.T) {
	for _, s := range samples() {
		if len(s.fitting) > 1000 || len(s.c) > 12 {
			continue
		}
		idle, e := bit.Idle(s.f, s.c)
		for i := range s.c {
			alike := slices.EqualFunc(fittingOf(s.f, without(s.c, i)), s.fitting, slices.Equal)
			if alike != slices.Contains(idle, i) || e != api.OK {
				t.Fatal("Idle", s.f, s.c, i, idle, e)
			}
		}
	}
}

func TestIdleExamples(t *testing.T) {
	one, all := cell(1, 1, 1, 1), cell(0, 2, 1, 1)
	for _, c := range []struct {
		f    api.Field
		c    []api.Cell
		want []int
	}{
		{two(), nil, nil},
		{two(), []api.Cell{one}, nil},
		{two(), []api.Cell{all}, []int{0}},
		{two(), []api.Cell{all, one, all}, []int{0, 2}},
		// Each alone may go, though not both.
		{two(), []api.Cell{one, one}, []int{0, 1}},
		{two(), []api.Cell{one, cell(0, 0, 1, 0), cell(1, 1, 0, 1)}, []int{0, 1, 2}},
		// No picture fits: a cell is idle if no one fits without it.
		{two(), []api.Cell{cell(5, 5, 1, 1)}, nil},
		{two(), []api.Cell{cell(5, 5, 1, 1), one}, []int{1}},
		{two(), []api.Cell{cell(5, 5, 1, 1), cell(6, 6, 1, 1)}, []int{0, 1}},
		{two(), []api.Cell{cell(0, 0, 1, 0), cell(1, 1, 1, 0)}, nil},
		{field(2, 0), []api.Cell{cell(0, 0, 1, 1), cell(-5, 5, 1, -1)}, []int{0, 1}},
		{two(), []api.Cell{cell(0, 0, 0, 0), cell(0, 1, 1, 0), cell(-100, 100, 1, 1)}, []int{0, 1, 2}},
		{two(), slices.Repeat([]api.Cell{one}, 30), indexes(30)},
		{two(), append(slices.Repeat([]api.Cell{all}, 29), one), indexes(29)},
	} {
		if l, e := bit.Idle(c.f, c.c); !slices.Equal(l, c.want) || e != api.OK {
			t.Error("Idle", c, l, e)
		}
	}
}

func indexes(n int) []int {
	l := make([]int, n)
	for i := range l {
		l[i] = i
	}
	return l
}

func TestClash(t *testing.T) {
	s := numbers(19)
	all := samples()
	for _, f := range []api.Field{two(), field(2, 3), field(3, 1), field(3, 2), field(4, 1)} {
		for range 12 {
			all = append(all, newSample(f, s.cells(f, 6+s.below(4))))
		}
	}
	for _, one := range all {
		if len(one.fitting) > 1000 || len(one.c) > 9 {
			continue
		}
		want := clashOf(one.f, one.c)
		l, e := bit.Clash(one.f, one.c)
		if !slices.Equal(l, want) || want == nil && e != api.ErrNone || want != nil && e != api.OK {
			t.Fatal("Clash", one.f, one.c, l, e)
		}
		checkClash(t, one.f, one.c, l)
	}
}

// P7.5: no picture fits the cells, and with any one less some picture fits.
func checkClash(t *testing.T, f api.Field, c []api.Cell, clash []int) {
	t.Helper()
	part := chosen(c, clash)
	if n, e := bit.Count(f, part); len(clash) > 0 && n != 0 || e != api.OK {
		t.Fatal("no clash", f, c, clash, n, e)
	}
	for i := range part {
		if n, e := bit.Count(f, without(part, i)); n == 0 || e != api.OK {
			t.Fatal("a clash that is too large", f, c, clash, i, e)
		}
	}
}

func TestClashExamples(t *testing.T) {
	zero, one, all := cell(0, 0, 1, 0), cell(1, 1, 1, 0), cell(0, 2, 1, 1)
	never := cell(5, 6, 1, 1)
	for _, c := range []struct {
		c    []api.Cell
		want []int
	}{
		{[]api.Cell{never}, []int{0}},
		{[]api.Cell{all, zero, never}, []int{2}},
		// The smallest one, though another one is ahead of it.
		{[]api.Cell{zero, one, never}, []int{2}},
		{[]api.Cell{never, never}, []int{0}},
		{[]api.Cell{cell(1, 2, 0, 0)}, []int{0}},
		{[]api.Cell{zero, one}, []int{0, 1}},
		{[]api.Cell{all, zero, all, one}, []int{1, 3}},
		// Of several of two cells the first list.
		{[]api.Cell{zero, zero, one, one}, []int{0, 2}},
		{[]api.Cell{zero, all, one, one, zero}, []int{0, 2}},
		{[]api.Cell{all, one, all, zero, cell(0, 0, 1, 1), cell(2, 2, 1, 1)}, []int{1, 3}},
		// Three of which each two have a picture.
		{[]api.Cell{cell(1, 1, 1, 1), cell(0, 0, 1, 0), cell(0, 0, 0, 1)}, []int{0, 1, 2}},
		{[]api.Cell{cell(1, 2, 1, 1), cell(0, 1, 1, 1), cell(-1, 0, 1, -1), cell(0, 1, 1, -1)}, []int{0, 1, 2, 3}},
		{append(slices.Repeat([]api.Cell{zero}, 11), one), []int{0, 11}},
		{append(slices.Repeat([]api.Cell{all}, 11), never), []int{11}},
	} {
		if l, e := bit.Clash(two(), c.c); !slices.Equal(l, c.want) || e != api.OK {
			t.Error("Clash", c, l, e)
		}
	}
	if l, e := bit.Clash(field(2, 0), []api.Cell{all, one}); !slices.Equal(l, []int{1}) || e != api.OK {
		t.Error("Clash of zeros", l, e)
	}
}

func TestNoClash(t *testing.T) {
	for _, c := range [][]api.Cell{nil, {}, {cell(0, 2, 1, 1)}, {cell(1, 1, 1, 1), cell(1, 1, 1, 0)}, slices.Repeat([]api.Cell{cell(0, 0, 1, 1)}, 12)} {
		if l, e := bit.Clash(two(), c); len(l) != 0 || e != api.ErrNone {
			t.Error("Clash of what fits", c, l, e)
		}
	}
}

func TestGreatClashes(t *testing.T) {
	f, c := needed()
	if l, e := bit.Clash(f, c); !slices.Equal(l, indexes(12)) || e != api.OK {
		t.Error("Clash of all", l, e)
	}
	checkClash(t, f, c, indexes(12))
	for i := range c {
		if l, e := bit.Clash(f, without(c, i)); len(l) != 0 || e != api.ErrNone {
			t.Error("Clash of all but one", i, l, e)
		}
	}
	var full []api.Cell
	for j := range 8 {
		full = append(full, cell(3, 3, unit(8, j)...))
	}
	full = append(full, cell(0, 24, filled(8, 1)...), cell(0, 23, filled(8, 1)...), cell(0, 23, filled(8, 1)...))
	if l, e := bit.Clash(field(8, 3), full); !slices.Equal(l, []int{0, 1, 2, 3, 4, 5, 6, 7, 9}) || e != api.OK {
		t.Error("Clash of nine", l, e)
	}
}

func TestClashLimit(t *testing.T) {
	for _, n := range []int{13, 14, 29, 30} {
		for _, one := range []api.Cell{cell(0, 2, 1, 1), cell(5, 6, 1, 1)} {
			if l, e := bit.Clash(two(), slices.Repeat([]api.Cell{one}, n)); len(l) != 0 || e != api.ErrLimit {
				t.Error("Clash", n, one, l, e)
			}
		}
	}
}
