package bit_test

import (
	"slices"
	"testing"

	"lightsieve/api"
	"lightsieve/bit"
)

// none are cells for two pixels that no picture of the field two fits.
func none() [][]api.Cell {
	return [][]api.Cell{
		{cell(3, 3, 1, 1)}, {cell(-100, -1, 1, 1)}, {cell(1, 1, 0, 0)}, {cell(100, 100, 1, 0)}, {cell(-100, -100, 0, 1)},
		{cell(1, 1, 1, 0), cell(0, 0, 1, 0)}, {cell(2, 2, 1, 1), cell(1, 1, 1, -1)}, {cell(0, 1, 1, 1), cell(1, 2, 1, 0), cell(1, 2, 0, 1)},
	}
}

func spanOf(pictures [][]int, pixel int) api.Span {
	span := api.Span{Lo: pictures[0][pixel], Hi: pictures[0][pixel]}
	for _, x := range pictures {
		span.Lo, span.Hi = min(span.Lo, x[pixel]), max(span.Hi, x[pixel])
	}
	return span
}

func TestCountAndFirst(t *testing.T) {
	for _, s := range samples() {
		if n, e := bit.Count(s.f, s.c); n != len(s.fitting) || e != api.OK {
			t.Fatal("Count", s.f, s.c, n, e)
		}
		x, e := bit.First(s.f, s.c)
		if len(s.fitting) == 0 {
			if len(x) != 0 || e != api.ErrNone {
				t.Fatal("First of none", s.f, s.c, x, e)
			}
		} else if !slices.Equal(x, s.fitting[0]) || e != api.OK {
			t.Fatal("First", s.f, s.c, x, e)
		}
	}
}

func TestCountExamples(t *testing.T) {
	for _, c := range []struct {
		f     api.Field
		c     []api.Cell
		n     int
		first []int
	}{
		{two(), []api.Cell{cell(1, 1, 1, 1)}, 2, []int{0, 1}},
		{two(), []api.Cell{cell(1, 1, 1, 1), cell(1, 9, 1, 0)}, 1, []int{1, 0}},
		{two(), nil, 4, []int{0, 0}},
		{field(4, 0), nil, 1, []int{0, 0, 0, 0}},
		{field(1, 0), []api.Cell{cell(0, 0, 1)}, 1, []int{0}},
		{field(8, 3), nil, 65536, filled(8, 0)},
		{field(8, 3), []api.Cell{cell(24, 24, filled(8, 1)...)}, 1, filled(8, 3)},
		{field(8, 3), []api.Cell{cell(1, 1, filled(8, 1)...)}, 8, unit(8, 7)},
		{field(8, 3), []api.Cell{cell(0, 0, filled(8, 0)...)}, 65536, filled(8, 0)},
	} {
		n, e := bit.Count(c.f, c.c)
		x, f := bit.First(c.f, c.c)
		if n != c.n || e != api.OK || !slices.Equal(x, c.first) || f != api.OK {
			t.Error(c, n, e, x, f)
		}
	}
}

func TestBoundsAndKnown(t *testing.T) {
	for _, s := range samples() {
		var alike []int
		for j := range s.f.Pixels {
			span, e := bit.Bounds(s.f, s.c, j)
			if len(s.fitting) == 0 {
				if span != (api.Span{}) || e != api.ErrNone {
					t.Fatal("Bounds of none", s.f, s.c, j, span, e)
				}
				continue
			}
			want := spanOf(s.fitting, j)
			if span != want || e != api.OK {
				t.Fatal("Bounds", s.f, s.c, j, span, e)
			}
			if want.Lo == want.Hi {
				alike = append(alike, j)
			}
		}
		known, e := bit.Known(s.f, s.c)
		if len(s.fitting) == 0 && (len(known) != 0 || e != api.ErrNone) || len(s.fitting) > 0 && (!slices.Equal(known, alike) || e != api.OK) {
			t.Fatal("Known", s.f, s.c, known, e)
		}
	}
}

func TestKnownExamples(t *testing.T) {
	for _, c := range []struct {
		f    api.Field
		c    []api.Cell
		want []int
	}{
		{two(), nil, nil},
		{two(), []api.Cell{cell(1, 1, 1, 1)}, nil},
		{two(), []api.Cell{cell(0, 0, 1, 0)}, []int{0}},
		{two(), []api.Cell{cell(2, 2, 1, 1)}, []int{0, 1}},
		{field(3, 0), nil, []int{0, 1, 2}},
		{field(8, 3), []api.Cell{cell(23, 24, filled(8, 1)...), cell(3, 3, unit(8, 5)...)}, []int{5}},
	} {
		if l, e := bit.Known(c.f, c.c); !slices.Equal(l, c.want) || e != api.OK {
			t.Error("Known", c, l, e)
		}
	}
}

func TestNoPictureFits(t *testing.T) {
	for _, c := range none() {
		if n, e := bit.Count(two(), c); n != 0 || e != api.OK {
			t.Error("Count", c, n, e)
		}
		if x, e := bit.First(two(), c); len(x) != 0 || e != api.ErrNone {
			t.Error("First", c, x, e)
		}
		if s, e := bit.Bounds(two(), c, 1); s != (api.Span{}) || e != api.ErrNone {
			t.Error("Bounds", c, s, e)
		}
		if l, e := bit.Known(two(), c); len(l) != 0 || e != api.ErrNone {
			t.Error("Known", c, l, e)
		}
		if below, above, e := bit.Parts(two(), c, []int{1, 0}, 1); below != 0 || above != 0 || e != api.OK {
			t.Error("Parts", c, below, above, e)
		}
		if n, e := bit.Halve(two(), c, []int{1, 0}); n != 0 || e != api.ErrNone {
			t.Error("Halve", c, n, e)
		}
		if row, n, e := bit.Next(two(), c, [][]int{{1, 0}, {0, 1}}); row != 0 || n != 0 || e != api.ErrNone {
			t.Error("Next", c, row, n, e)
		}
		if _, e := bit.Idle(two(), c); e != api.OK {
			t.Error("Idle", c, e)
		}
		if l, e := bit.Clash(two(), c); len(l) == 0 || e != api.OK {
			t.Error("Clash", c, l, e)
		}
	}
}

// P7.2: a further cell.
func TestFewer(t *testing.T) {
	s := numbers(3)
	for _, one := range samples() {
		if len(one.c) == api.MaxCells || len(one.fitting) > 1000 {
			continue
		}
		further := append(slices.Clone(one.c), s.cells(one.f, 1)...)
		many, _ := bit.Count(one.f, one.c)
		few, e := bit.Count(one.f, further)
		if few > many || e != api.OK {
			t.Fatal("more pictures fit", one.f, further, many, few, e)
		}
		for j := range one.f.Pixels {
			wide, _ := bit.Bounds(one.f, one.c, j)
			narrow, e := bit.Bounds(one.f, further, j)
			if e == api.OK && (narrow.Lo < wide.Lo || narrow.Hi > wide.Hi) || e != api.OK && few > 0 {
				t.Fatal("wider bounds", one.f, further, j, wide, narrow, e)
			}
		}
	}
}
