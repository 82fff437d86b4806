package dual_test

import (
	"math"
	"slices"
	"testing"

	"lightsieve/api"
	"lightsieve/dual"
)

func TestLight(t *testing.T) {
	for _, c := range []struct {
		m api.Mask
		y []int
	}{
		{two(), []int{1, 1}}, {two(), []int{3, 2}}, {two(), []int{2, 3}}, {two(), []int{1, 0}}, {two(), []int{0, 0}}, {two(), []int{top, top}}, {twice(), []int{4, 4}}, {half(), []int{1, 0}}, {half(), []int{3, -3}}, {half(), []int{3, 2}}, {line(), []int{3}}, {line(), []int{-3}},
		{api.Mask{{0}}, []int{0}}, {full(6, 10, 0), filled(6, 0)}, {full(6, 10, -1), filled(6, -top)}, {units(6), upTo(6)}, {api.Mask{{1, 1, 0}, {1, 0, 1}, {0, 1, 1}}, []int{1, 1, 1}},
		// The first fits are not light.
		{api.Mask{{1, 1, 0}, {0, -1, 1}}, []int{2, 3}}, {api.Mask{{-1, 1, 0}, {0, 1, 1}}, []int{3, 5}}, {api.Mask{{-1, 1}}, []int{5}},
	} {
		x, e := dual.Light(c.m, c.y)
		if e != api.OK || !isLight(c.m, c.y, x) || !dual.IsLight(c.m, c.y, x) {
			t.Error("Light", c.m, c.y, x, e)
		}
		if z, e := dual.Shade(c.m, c.y); len(z) != 0 || e != api.ErrNone {
			t.Error("Shade", c.m, c.y, z, e)
		}
	}
}

// isLight asks by the definition.
func isLight(m api.Mask, y []int, x []api.Ratio) bool {
	return makes(m, x, y) && !slices.ContainsFunc(x, func(r api.Ratio) bool { return r.N < 0 })
}

func TestIsLight(t *testing.T) {
	for _, c := range []struct {
		m    api.Mask
		y    []int
		x    []api.Ratio
		want bool
	}{
		{two(), []int{1, 1}, wholes(0, 1, 0), true}, {two(), []int{1, 1}, wholes(1, 0, 1), true}, {two(), []int{1, 1}, filledRatios(3, ratio(1, 2)), true}, {two(), []int{1, 1}, wholes(2, -1, 2), false}, {two(), []int{1, 1}, wholes(-1, 2, -1), false}, {two(), []int{1, -1}, wholes(1, 0, -1), false}, {two(), []int{0, 0}, wholes(0, 0, 0), true}, {two(), []int{0, 0}, wholes(1, -1, 1), false},
		{api.Mask{{1, 1}}, []int{1}, []api.Ratio{ratio(-1, 400), ratio(401, 400)}, false}, {api.Mask{{1, 1}}, []int{1}, []api.Ratio{ratio(1, 400), ratio(399, 400)}, true}, {api.Mask{{1, 1}}, []int{1}, []api.Ratio{ratio(1, 400), ratio(398, 399)}, false},
		// Another reading, in the first row and in the last.
		{two(), []int{1, 1}, wholes(1, 0, 0), false}, {two(), []int{1, 1}, wholes(0, 0, 1), false}, {two(), []int{1, 1}, wholes(0, 0, 0), false}, {twice(), []int{1, 2}, wholes(1, 0), false}, {twice(), []int{1, 2}, wholes(2, 0), false},
		// Wrong arguments.
		{two(), []int{1, 1}, wholes(0, 1), false}, {two(), []int{1, 1}, wholes(0, 1, 0, 0), false}, {two(), []int{1, 1}, nil, false}, {two(), []int{1}, wholes(0, 1, 0), false}, {two(), []int{1, 1, 1}, wholes(0, 1, 0), false}, {two(), nil, wholes(0, 0, 0), false}, {two(), []int{top, top}, wholes(0, top, 0), true}, {two(), []int{top + 1, top + 1}, wholes(0, top+1, 0), false}, {full(1, 1, 0), []int{0}, wholes(10000000000), true},
	} {
		if is := dual.IsLight(c.m, c.y, c.x); is != c.want {
			t.Error("IsLight", c.m, c.y, c.x, is)
		}
	}
	for _, wrong := range wrongRatios() {
		if dual.IsLight(full(1, 1, 0), []int{0}, []api.Ratio{wrong}) || dual.IsLight(two(), []int{1, 1}, []api.Ratio{ratio(0, 1), ratio(1, 1), wrong}) || dual.IsLight(two(), []int{1, 1}, []api.Ratio{wrong, ratio(1, 1), ratio(0, 1)}) {
			t.Error("IsLight of", wrong)
		}
	}
	for _, m := range wrongMasks() {
		for _, x := range [][]api.Ratio{nil, wholes(0), wholes(0, 0)} {
			if dual.IsLight(m, filled(len(m), 0), x) || dual.IsLight(m, nil, x) {
				t.Error("IsLight", m, x)
			}
		}
	}
}

func TestBrightest(t *testing.T) {
	for _, c := range []struct {
		m     api.Mask
		y     []int
		pixel int
		want  api.Ratio
		e     api.Errno
	}{
		{two(), []int{1, 1}, 0, ratio(1, 1), api.OK}, {two(), []int{1, 1}, 1, ratio(1, 1), api.OK}, {two(), []int{3, 2}, 0, ratio(3, 1), api.OK}, {two(), []int{3, 2}, 1, ratio(2, 1), api.OK}, {two(), []int{3, 2}, 2, ratio(2, 1), api.OK}, {two(), []int{0, 0}, 1, ratio(0, 1), api.OK}, {two(), []int{top, top}, 2, ratio(top, 1), api.OK},
		{twice(), []int{4, 4}, 1, ratio(4, 1), api.OK}, {half(), []int{1, 0}, 1, ratio(1, 2), api.OK}, {api.Mask{{1, 1, 1}, {1, -1, 0}}, []int{3, 0}, 0, ratio(3, 2), api.OK}, {api.Mask{{1, 1, 1}, {1, -1, 0}}, []int{3, 0}, 2, ratio(3, 1), api.OK}, {api.Mask{{1, 1, 1}, {1, -1, 0}}, []int{3, 2}, 2, ratio(1, 1), api.OK},
		// There is no greatest for some pixels, and for the others there may be one.
		{api.Mask{{1, -1}}, []int{3}, 0, ratio(0, 0), api.ErrState}, {api.Mask{{1, -1}}, []int{3}, 1, ratio(0, 0), api.ErrState}, {api.Mask{{1, 1, 0}}, []int{3}, 2, ratio(0, 0), api.ErrState}, {api.Mask{{1, 1, 0}}, []int{3}, 1, ratio(3, 1), api.OK}, {api.Mask{{1, -1, 0}, {0, 0, 1}}, []int{3, 4}, 1, ratio(0, 0), api.ErrState}, {api.Mask{{1, -1, 0}, {0, 0, 1}}, []int{3, 4}, 2, ratio(4, 1), api.OK}, {line(), []int{0}, 3, ratio(0, 0), api.ErrState}, {api.Mask{{0}}, []int{0}, 0, ratio(0, 0), api.ErrState}, {full(6, 10, 0), filled(6, 0), 9, ratio(0, 0), api.ErrState}, {api.Mask{{1, 1, -1}}, []int{0}, 1, ratio(0, 0), api.ErrState}, {api.Mask{{1, 1, -1, 0}, {0, 0, 0, 1}}, []int{-2, 7}, 3, ratio(7, 1), api.OK},
		// Dark readings are told first, also where a light kernel vector is above 0 at the pixel.
		{two(), []int{1, -1}, 0, ratio(0, 0), api.ErrNone}, {two(), []int{-1, -1}, 1, ratio(0, 0), api.ErrNone}, {twice(), []int{1, 2}, 0, ratio(0, 0), api.ErrNone}, {api.Mask{{1, -1, 0}, {0, 0, 1}}, []int{3, -1}, 0, ratio(0, 0), api.ErrNone}, {api.Mask{{1, 0}}, []int{-1}, 1, ratio(0, 0), api.ErrNone}, {api.Mask{{0}}, []int{1}, 0, ratio(0, 0), api.ErrNone}, {api.Mask{{1, -1}, {1, -1}}, []int{1, 2}, 0, ratio(0, 0), api.ErrNone},
	} {
		if r, e := dual.Brightest(c.m, c.y, c.pixel); r != c.want || e != c.e {
			t.Error("Brightest", c.m, c.y, c.pixel, r, e)
		}
	}
}

// By another way: a linear program, in which neither a fit nor a circuit is looked for.
func TestBrightestByLinearPrograms(t *testing.T) {
	var s numbers
	told := map[api.Errno]int{}
	for _, m := range masks() {
		for _, y := range readings(&s, m) {
			if s.below(3) > 0 {
				continue
			}
			pixel := s.below(len(m[0]))
			want, e := brightest(m, y, pixel)
			r, f := dual.Brightest(m, y, pixel)
			if e != f || e == api.OK && (!isValid(r) || bigRatio(r).Cmp(want) != 0) || e != api.OK && r != ratio(0, 0) {
				t.Fatal("Brightest", m, y, pixel, r, f, want, e)
			}
			told[e]++
		}
	}
	if told[api.OK] < 1000 || told[api.ErrNone] < 1000 || told[api.ErrState] < 1000 {
		t.Error("too few readings of each kind:", told)
	}
}

// P5.5: each reading has a light picture, or a shade, and not both.
func TestLightOrShade(t *testing.T) {
	var s numbers
	light, dark := 0, 0
	for _, m := range masks() {
		for _, y := range readings(&s, m) {
			if len(m[0]) > 6 && s.below(3) > 0 {
				continue
			}
			x, e := dual.Light(m, y)
			z, f := dual.Shade(m, y)
			if e == api.OK {
				if !isLight(m, y, x) || !dual.IsLight(m, y, x) || len(z) != 0 || f != api.ErrNone {
					t.Fatal("a light picture", m, y, x, z, f)
				}
				light++
				continue
			}
			if e != api.ErrNone || len(x) != 0 || f != api.OK || !isShade(m, y, z) || !dual.Shades(m, y, z) {
				t.Fatal("a shade", m, y, x, e, z, f)
			}
			dark++
		}
	}
	if light < 5000 || dark < 5000 {
		t.Error("too few readings that are light, or dark:", light, dark)
	}
}

// isShade asks by the definition.
func isShade(m api.Mask, y, z []int) bool {
	if len(z) != len(m) || slices.ContainsFunc(z, func(n int) bool { return n < -1000000 || n > 1000000 }) {
		return false
	}
	return dot(z, y) < 0 && !slices.ContainsFunc(backOf(m, z), func(n int) bool { return n < 0 })
}

func TestShade(t *testing.T) {
	for _, c := range []impossibleCase{
		{two(), []int{1, -1}}, {two(), []int{-1, 1}}, {two(), []int{-1, -1}}, {two(), []int{0, -1}}, {two(), []int{-top, top}}, {half(), []int{-1, 0}}, {half(), []int{1, 2}}, {half(), []int{1, -2}}, {api.Mask{{1}}, []int{-1}}, {api.Mask{{-1}}, []int{1}}, {api.Mask{{1, 0}}, []int{-5}}, {full(6, 10, 1), filled(6, -top)}, {full(6, 10, -1), filled(6, 1)}, {units(6), []int{1, 1, 1, 1, 1, -1}}, {units(6), filled(6, -top)}, {steep(), filled(6, -1)}, {api.Mask{{1}, {1}, {-1}}, []int{-2, -2, 2}},
	} {
		checkShade(t, c)
	}
	// Also impossible readings that would be dark without one of their rows, or light.
	for _, c := range impossible() {
		checkShade(t, c)
		checkShade(t, impossibleCase{c.m, times(-1, c.y)})
	}
}

func checkShade(t *testing.T, c impossibleCase) {
	t.Helper()
	if z, e := dual.Shade(c.m, c.y); e != api.OK || !isShade(c.m, c.y, z) || !dual.Shades(c.m, c.y, z) {
		t.Error("Shade", c.m, c.y, z, e)
	}
	if x, e := dual.Light(c.m, c.y); len(x) != 0 || e != api.ErrNone {
		t.Error("Light", c.m, c.y, x, e)
	}
	for j := range c.m[0] {
		if r, e := dual.Brightest(c.m, c.y, j); r != ratio(0, 0) || e != api.ErrNone {
			t.Error("Brightest", c.m, c.y, j, r, e)
		}
	}
}

func TestShades(t *testing.T) {
	most := 1000000
	for _, c := range []struct {
		m    api.Mask
		y, z []int
		want bool
	}{
		{two(), []int{1, -1}, []int{0, 1}, true}, {two(), []int{1, -1}, []int{0, 7}, true}, {two(), []int{1, -1}, []int{1, 2}, true}, {two(), []int{3, -1}, []int{1, 4}, true}, {two(), []int{-1, 1}, []int{1, 0}, true}, {half(), []int{1, 2}, []int{1, -1}, true},
		// The sum with the reading is 0, or above.
		{two(), []int{1, -1}, []int{1, 1}, false}, {two(), []int{1, -1}, []int{2, 1}, false}, {two(), []int{1, -1}, []int{0, 0}, false}, {two(), []int{1, 1}, []int{1, 0}, false}, {two(), []int{0, 0}, []int{1, 1}, false},
		// A pixel sees less than nothing: the first, one in the midst, the last.
		{two(), []int{1, -2}, []int{-1, 1}, false}, {two(), []int{-2, 1}, []int{1, -1}, false}, {api.Mask{{1, -1, 1}}, []int{-1}, []int{1}, false}, {api.Mask{{1, 0, 1}}, []int{-1}, []int{1}, true}, {two(), []int{1, 1}, []int{-1, 0}, false}, {api.Mask{{1, 0}, {0, 1}}, []int{-5, 1}, []int{1, -1}, false}, {api.Mask{{1, 0}, {0, 1}}, []int{1, -5}, []int{-1, 1}, false},
		// Impossible readings.
		{twice(), []int{1, 2}, []int{1, -1}, true}, {twice(), []int{1, 2}, []int{-1, 1}, false}, {twice(), []int{2, 1}, []int{-1, 1}, true}, {api.Mask{{0}}, []int{3}, []int{-1}, true}, {api.Mask{{0}}, []int{3}, []int{1}, false},
		// The numbers are at their limits, and beyond them.
		{two(), []int{1, -1}, []int{0, most}, true}, {two(), []int{1, -1}, []int{0, most + 1}, false}, {twice(), []int{1, 2}, []int{most, -most}, true}, {twice(), []int{1, 2}, []int{most + 1, -most - 1}, false}, {twice(), []int{1, 2}, []int{most, -most - 1}, false}, {twice(), []int{-1, -1}, []int{most + 1, -most}, false}, {full(2, 1, 0), []int{1, 1}, []int{-most - 1, 0}, false}, {full(2, 1, 0), []int{1, 1}, []int{0, -most}, true}, {full(2, 1, 0), []int{-1, 1}, []int{most + 1, 0}, false}, {full(2, 1, 0), []int{1, 1}, []int{math.MinInt, 0}, false}, {full(2, 1, 0), []int{-1, 1}, []int{math.MaxInt, math.MaxInt}, false}, {full(6, 10, 1), filled(6, -top), filled(6, most), true}, {full(1, 1, 0), []int{1}, []int{-1000000001}, false}, {full(1, 1, 0), []int{1}, []int{-1000000000}, false},
		// Lists of another length, and no readings.
		{two(), []int{1, -1}, []int{0}, false}, {two(), []int{1, -1}, []int{0, 1, 0}, false}, {two(), []int{1, -1}, nil, false}, {two(), []int{-1}, []int{0, 1}, false}, {two(), []int{1, -1, 0}, []int{0, 1}, false}, {two(), nil, []int{0, 1}, false}, {two(), nil, nil, false}, {two(), []int{1, -top}, []int{0, 1}, true}, {two(), []int{1, -top - 1}, []int{0, 1}, false}, {two(), []int{top + 1, -1}, []int{0, 1}, false}, {two(), []int{0, math.MinInt}, []int{0, 1}, false},
	} {
		if is := dual.Shades(c.m, c.y, c.z); is != c.want {
			t.Error("Shades", c.m, c.y, c.z, is)
		}
	}
	for _, m := range wrongMasks() {
		for _, z := range [][]int{filled(len(m), 1), filled(len(m), 0), nil, {1}} {
			if dual.Shades(m, filled(len(m), -1), z) || dual.Shades(m, nil, z) {
				t.Error("Shades", m, z)
			}
		}
	}
	for _, m := range smallMasks() {
		if len(m)*len(m[0]) > 4 || len(m) > 3 {
			continue
		}
		for _, y := range lists(len(m), 1) {
			for _, z := range lists(len(m), 2) {
				if is := dual.Shades(m, y, z); is != isShade(m, y, z) {
					t.Fatal("Shades", m, y, z, is)
				}
			}
		}
	}
}
