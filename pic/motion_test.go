package pic_test

import (
	"math"
	"slices"
	"testing"

	"lightsieve/api"
	"lightsieve/pic"
)

func TestAdded(t *testing.T) {
	a := picture(3, 2, 1, 2, 3, 4, -5, 6)
	b := picture(3, 2, 10, -20, 0, -4, -5, top-6)
	if p, e := pic.Added(a, b); e != api.OK || !same(p, picture(3, 2, 11, -18, 3, 0, -10, top)) {
		t.Error("Added", p, e)
	}
	if p, e := pic.Added(picture(1, 2, top, -top), picture(1, 2, -1, 1)); e != api.OK || !same(p, picture(1, 2, top-1, -top+1)) {
		t.Error("Added back from the limit", p, e)
	}
	if p, e := pic.Added(picture(2, 1, top-1, 1-top), picture(2, 1, 1, -1)); e != api.OK || !same(p, picture(2, 1, top, -top)) {
		t.Error("Added at the limit", p, e)
	}
	for _, n := range []int{1, -1} {
		for at := range 4 {
			a, b := picture(2, 2, 0, 0, 0, 0), picture(2, 2, 0, 0, 0, 0)
			a.Pix[at], b.Pix[at] = n*top, n
			if p, e := pic.Added(a, b); !isZero(p) || e != api.ErrLimit {
				t.Error("Added beyond the limit", n, at, p, e)
			}
		}
	}
}

func TestDiffer(t *testing.T) {
	a := picture(3, 2, 1, 2, 3, 4, -5, 6)
	for _, c := range []struct{ pix, places []int }{
		{[]int{1, 2, 3, 4, -5, 6}, nil},
		{[]int{1, 0, 3, 4, 5, 6}, []int{1, 4}},
		{[]int{0, 2, 3, 4, -5, 7}, []int{0, 5}},
		{[]int{-1, -2, -3, -4, 5, -6}, []int{0, 1, 2, 3, 4, 5}},
	} {
		if l, e := pic.Differ(a, picture(3, 2, c.pix...)); !slices.Equal(l, c.places) || e != api.OK {
			t.Error("Differ", c.pix, l, e)
		}
		if l, e := pic.Differ(picture(3, 2, c.pix...), a); !slices.Equal(l, c.places) || e != api.OK {
			t.Error("Differ turned round", c.pix, l, e)
		}
	}
	if l, e := pic.Differ(picture(1, 1, top), picture(1, 1, -top)); !slices.Equal(l, []int{0}) || e != api.OK {
		t.Error("Differ at the limits", l, e)
	}
}

// Both are asked to be valid first, and to have the same sides next.
func TestErrorsOfTwoPictures(t *testing.T) {
	check := func(a, b api.Picture, want api.Errno) {
		t.Helper()
		if p, e := pic.Added(a, b); !isZero(p) || e != want {
			t.Error("Added", a.Wide, a.High, b.Wide, b.High, p, e)
		}
		if l, e := pic.Differ(a, b); len(l) != 0 || e != want {
			t.Error("Differ", a.Wide, a.High, b.Wide, b.High, l, e)
		}
	}
	right := picture(2, 3, top, top, top, top, top, top)
	for _, wrong := range wrongPictures() {
		check(wrong, right, api.ErrInvalid)
		check(right, wrong, api.ErrInvalid)
		check(wrong, wrong, api.ErrInvalid)
	}
	for _, other := range []api.Picture{picture(3, 2, top, top, top, top, top, top), picture(2, 2, top, top, top, top), picture(1, 3, top, top, top), picture(6, 1, top, top, top, top, top, top)} {
		check(right, other, api.ErrSize)
		check(other, right, api.ErrSize)
	}
}

func TestTurned(t *testing.T) {
	p := picture(3, 2, 1, 2, 3, 4, 5, 6)
	turns := []api.Picture{
		p,
		picture(2, 3, 4, 1, 5, 2, 6, 3),
		picture(3, 2, 6, 5, 4, 3, 2, 1),
		picture(2, 3, 3, 6, 2, 5, 1, 4),
	}
	for quarters := -9; quarters <= 9; quarters++ {
		if q, e := pic.Turned(p, quarters); e != api.OK || !same(q, turns[(quarters+12)%4]) {
			t.Error("Turned", quarters, q, e)
		}
	}
	// The least int is a multiple of 4, and the greatest one less than such a multiple.
	for quarters, want := range map[int]int{math.MinInt: 0, math.MinInt + 1: 1, math.MaxInt: 3, math.MaxInt - 1: 2, 1 << 40: 0, -1 << 40: 0, 1<<40 + 1: 1, -1<<40 - 1: 3} {
		if q, e := pic.Turned(p, quarters); e != api.OK || !same(q, turns[want]) {
			t.Error("Turned", quarters, q, e)
		}
	}
	for _, p := range wrongPictures() {
		for _, quarters := range []int{0, 1, -1, math.MinInt} {
			if q, e := pic.Turned(p, quarters); !isZero(q) || e != api.ErrInvalid {
				t.Error("Turned no picture", p.Wide, p.High, q, e)
			}
		}
	}
}

func TestTurnedByOneQuarter(t *testing.T) {
	var s numbers
	for range 100 {
		p := s.picture(top)
		q, e := pic.Turned(p, 1)
		if e != api.OK || q.Wide != p.High || q.High != p.Wide || !pic.Valid(q) {
			t.Fatal("Turned", p, q, e)
		}
		for y := range p.High {
			for x := range p.Wide {
				if q.Pix[p.High-1-y+q.Wide*x] != p.Pix[x+p.Wide*y] {
					t.Fatal("Turned", p, q, x, y)
				}
			}
		}
	}
}

func TestMirrored(t *testing.T) {
	for _, c := range []struct{ p, q api.Picture }{
		{picture(3, 2, 1, 2, 3, 4, -5, 6), picture(3, 2, 3, 2, 1, 6, -5, 4)},
		{picture(2, 3, 1, 2, 3, 4, 5, 6), picture(2, 3, 2, 1, 4, 3, 6, 5)},
		{picture(1, 3, 1, 2, 3), picture(1, 3, 1, 2, 3)},
		{picture(4, 1, 1, 2, 3, 4), picture(4, 1, 4, 3, 2, 1)},
		{picture(1, 1, 9), picture(1, 1, 9)},
	} {
		if q, e := pic.Mirrored(c.p); e != api.OK || !same(q, c.q) {
			t.Error("Mirrored", c.p, q, e)
		}
	}
	for _, p := range wrongPictures() {
		if q, e := pic.Mirrored(p); !isZero(q) || e != api.ErrInvalid {
			t.Error("Mirrored no picture", p.Wide, p.High, q, e)
		}
	}
}

// P1.4: the steps and the size are kept, and what is done again as often as it takes is nothing.
func TestMotionsKeepStepsAndSize(t *testing.T) {
	var s numbers
	for range 100 {
		p := s.picture(1 + s.below(top))
		steps, _ := pic.Steps(p)
		turned := p
		for quarters := range 4 {
			q, e := pic.Turned(p, quarters)
			if n, _ := pic.Steps(q); e != api.OK || n != steps || sizeOf(q.Pix) != sizeOf(p.Pix) {
				t.Fatal("Turned", quarters, p, q)
			}
			if !same(q, turned) {
				t.Fatal("Turned by single quarters", quarters, q, turned)
			}
			turned, _ = pic.Turned(turned, 1)
		}
		if !same(turned, p) {
			t.Fatal("Turned by four quarters", p, turned)
		}
		q, e := pic.Mirrored(p)
		if n, _ := pic.Steps(q); e != api.OK || n != steps || sizeOf(q.Pix) != sizeOf(p.Pix) {
			t.Fatal("Mirrored", p, q)
		}
		if q, _ = pic.Mirrored(q); !same(q, p) {
			t.Fatal("Mirrored twice", p, q)
		}
	}
}

func TestHalved(t *testing.T) {
	for sum := -9; sum <= 9; sum++ {
		want := int(math.Floor(float64(sum) / 4))
		for at := range 4 {
			p := picture(2, 2, 0, 0, 0, 0)
			p.Pix[at] = sum
			if q, e := pic.Halved(p); e != api.OK || !same(q, picture(1, 1, want)) {
				t.Error("Halved", p, q, e)
			}
		}
	}
	if q, e := pic.Halved(picture(2, 2, 1, -2, -3, -1)); e != api.OK || !same(q, picture(1, 1, -2)) {
		t.Error("Halved below 0", q, e)
	}
	if q, e := pic.Halved(picture(2, 2, -1, 0, -1, -1)); e != api.OK || !same(q, picture(1, 1, -1)) {
		t.Error("Halved below 0", q, e)
	}
	wide := picture(4, 2,
		1, 2, 10, 20,
		3, 4, 30, 43)
	if q, e := pic.Halved(wide); e != api.OK || !same(q, picture(2, 1, 2, 25)) {
		t.Error("Halved", q, e)
	}
	high := picture(2, 4,
		1, 2,
		3, 4,
		-10, -20,
		-30, -43)
	if q, e := pic.Halved(high); e != api.OK || !same(q, picture(1, 2, 2, -26)) {
		t.Error("Halved", q, e)
	}
	for _, n := range []int{top, -top} {
		if q, e := pic.Halved(picture(16, 16, filled(256, n)...)); e != api.OK || !same(q, picture(8, 8, filled(64, n)...)) {
			t.Error("Halved the greatest picture", q, e)
		}
	}
}

func TestHalvedOfOddSides(t *testing.T) {
	for wide := 1; wide <= 16; wide++ {
		for high := 1; high <= 16; high++ {
			q, e := pic.Halved(picture(wide, high, filled(wide*high, 5)...))
			if wide%2 == 0 && high%2 == 0 {
				if e != api.OK || !same(q, picture(wide/2, high/2, filled(wide*high/4, 5)...)) {
					t.Error("Halved", wide, high, q, e)
				}
			} else if !isZero(q) || e != api.ErrSize {
				t.Error("Halved of an odd side", wide, high, q, e)
			}
		}
	}
	for _, p := range wrongPictures() {
		if q, e := pic.Halved(p); !isZero(q) || e != api.ErrInvalid {
			t.Error("Halved no picture", p.Wide, p.High, q, e)
		}
	}
}
