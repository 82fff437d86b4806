package lin_test

import (
	"math"
	"slices"
	"testing"

	"lightsieve/api"
	"lightsieve/lin"
)

// three has all pixels known; in half the pixel 0 is, and weighs 2.
func three() api.Mask {
	return api.Mask{{1, 1, 0}, {0, 1, 1}, {1, 0, 0}}
}

func half() api.Mask {
	return api.Mask{{1, 1, 1}, {1, -1, -1}}
}

func TestKnown(t *testing.T) {
	for _, c := range []struct {
		m    api.Mask
		want []int
	}{
		{two(), nil}, {three(), []int{0, 1, 2}}, {half(), []int{0}}, {api.Mask{{1}}, []int{0}}, {api.Mask{{0}}, nil}, {api.Mask{{0, 1}}, []int{1}}, {api.Mask{{1, 0}}, []int{0}},
		{api.Mask{{1, 1, 0}, {0, 0, 1}}, []int{2}}, {api.Mask{{1, 1, 0}, {1, 1, 1}}, []int{2}}, {steep(), []int{0, 1, 2, 3, 4, 5}}, {full(6, 10, 0), nil}, {full(6, 10, -1), nil}, {full(6, 1, -1), []int{0}},
	} {
		if pixels, e := lin.Known(c.m); e != api.OK || !slices.Equal(pixels, c.want) {
			t.Error("Known", c.m, pixels, e)
		}
	}
	for _, m := range wrongMasks() {
		if pixels, e := lin.Known(m); len(pixels) != 0 || e != api.ErrInvalid {
			t.Error("Known", m, pixels, e)
		}
	}
}

// P3.4: a pixel is known if no kernel vector has it, so that its column is no sum of multiples of the others.
func TestKnownOrNot(t *testing.T) {
	for _, m := range masks() {
		basis, _ := lin.Kernel(m)
		var want []int
		for j := range m[0] {
			known := rankOf(columnsOf(m, without(upTo(len(m[0])), j))) < rankOf(m)
			if known == slices.ContainsFunc(basis, func(h []int) bool { return h[j] != 0 }) {
				t.Fatal("Kernel", m, basis, j)
			}
			z, e := lin.Weight(m, j)
			if !known {
				if len(z) != 0 || e != api.ErrNone {
					t.Fatal("Weight of an unknown pixel", m, j, z, e)
				}
				continue
			}
			want = append(want, j)
			if e != api.OK || !weighs(m, j, z) || !lin.Weighs(m, j, z) {
				t.Fatal("Weight", m, j, z, e)
			}
		}
		if pixels, e := lin.Known(m); e != api.OK || !slices.Equal(pixels, want) {
			t.Fatal("Known", m, pixels, e, want)
		}
	}
}

func weighs(m api.Mask, pixel int, z []int) bool {
	if len(z) != len(m) || !within(z, top) {
		return false
	}
	sums := backOf(m, z)
	return sums[pixel] > 0 && slices.Equal(support(sums), []int{pixel})
}

func TestErrorsOfWeight(t *testing.T) {
	for _, pixel := range wrongNames() {
		for _, m := range []api.Mask{two(), three(), half()} {
			if z, e := lin.Weight(m, pixel); len(z) != 0 || e != api.ErrName {
				t.Error("Weight", m, pixel, z, e)
			}
		}
		for _, m := range wrongMasks() {
			if z, e := lin.Weight(m, pixel); len(z) != 0 || e != api.ErrInvalid {
				t.Error("Weight", m, pixel, z, e)
			}
		}
	}
	for _, m := range wrongMasks() {
		if z, e := lin.Weight(m, 0); len(z) != 0 || e != api.ErrInvalid {
			t.Error("Weight", m, z, e)
		}
	}
	for pixel := range 3 {
		if z, e := lin.Weight(two(), pixel); len(z) != 0 || e != api.ErrNone {
			t.Error("Weight of an unknown pixel", pixel, z, e)
		}
	}
}

func TestWeighs(t *testing.T) {
	for _, c := range []struct {
		m     api.Mask
		pixel int
		z     []int
		want  bool
	}{
		{three(), 0, []int{0, 0, 1}, true}, {three(), 1, []int{1, 0, -1}, true}, {three(), 2, []int{-1, 1, 1}, true}, {three(), 2, []int{-5, 5, 5}, true}, {three(), 2, []int{1, -1, -1}, false},
		{three(), 1, []int{0, 0, 1}, false}, {three(), 0, []int{1, 0, -1}, false}, {three(), 0, []int{0, 0, 0}, false}, {three(), 0, []int{1, 0, 0}, false},
		{half(), 0, []int{1, 1}, true}, {half(), 0, []int{top, top}, true}, {half(), 0, []int{-1, -1}, false}, {half(), 1, []int{1, 1}, false}, {half(), 1, []int{1, -1}, false},
		{half(), 0, []int{top + 1, top + 1}, false}, {half(), 0, []int{1000000000, 1000000000}, false}, {half(), 0, []int{math.MaxInt, math.MaxInt}, false}, {api.Mask{{-1}}, 0, []int{math.MinInt}, false}, {api.Mask{{-1}}, 0, []int{-top}, true}, {api.Mask{{-1}}, 0, []int{-top - 1}, false},
		{half(), 0, nil, false}, {half(), 0, []int{}, false}, {half(), 0, []int{1}, false}, {half(), 0, []int{1, 1, 0}, false}, {api.Mask{{1}}, 0, []int{1, 0}, false},
		{api.Mask{{0}}, 0, []int{1}, false}, {api.Mask{{1}, {1}}, 0, []int{1, -1}, false}, {api.Mask{{1}, {1}}, 0, []int{2, -1}, true},
	} {
		if is := lin.Weighs(c.m, c.pixel, c.z); is != c.want {
			t.Error("Weighs", c.m, c.pixel, c.z, is)
		}
	}
	for _, pixel := range wrongNames() {
		if lin.Weighs(half(), pixel, []int{1, 1}) || lin.Weighs(half(), pixel, []int{0, 0}) || lin.Weighs(half(), pixel, nil) {
			t.Error("Weighs a pixel that there is not", pixel)
		}
	}
	for _, m := range smallMasks() {
		if len(m) > 3 {
			continue
		}
		for _, z := range lists(len(m), 2) {
			for pixel := range m[0] {
				if is := lin.Weighs(m, pixel, z); is != weighs(m, pixel, z) {
					t.Fatal("Weighs", m, pixel, z, is)
				}
			}
		}
	}
	for _, m := range wrongMasks() {
		if lin.Weighs(m, 0, filled(len(m), 1)) || lin.Weighs(m, 0, nil) {
			t.Error("Weighs", m)
		}
	}
}

func TestValue(t *testing.T) {
	for _, c := range []struct {
		m     api.Mask
		y     []int
		pixel int
		want  api.Ratio
	}{
		{three(), []int{7, 11, 5}, 0, ratio(5, 1)}, {three(), []int{7, 11, 5}, 1, ratio(2, 1)}, {three(), []int{7, 11, 5}, 2, ratio(9, 1)}, {three(), []int{0, 0, 0}, 1, ratio(0, 1)},
		{half(), []int{1, 0}, 0, ratio(1, 2)}, {half(), []int{3, -6}, 0, ratio(-3, 2)}, {half(), []int{3, 5}, 0, ratio(4, 1)}, {half(), []int{top, top - 1}, 0, ratio(2*top-1, 2)}, {half(), []int{4, -4}, 0, ratio(0, 1)},
		{api.Mask{{-1}, {-1}}, []int{6, 6}, 0, ratio(-6, 1)}, {api.Mask{{1, 1}, {1, 1}, {0, 1}}, []int{3, 3, 1}, 0, ratio(2, 1)},
	} {
		if r, e := lin.Value(c.m, c.y, c.pixel); r != c.want || e != api.OK {
			t.Error("Value", c.m, c.y, c.pixel, r, e)
		}
	}
}

// P3.4: of a shown picture the value is the picture's, of any possible reading it is what pictures have that make it.
func TestValueOfAnyReading(t *testing.T) {
	var s numbers
	for _, m := range masks() {
		known, _ := lin.Known(m)
		x := s.list(len(m[0]), top/10)
		for j := range m[0] {
			r, e := lin.Value(m, readOf(m, x), j)
			if slices.Contains(known, j) && (r != ratio(x[j], 1) || e != api.OK) {
				t.Fatal("Value", m, x, j, r, e)
			}
			if !slices.Contains(known, j) && (r != api.Ratio{} || e != api.ErrNone) {
				t.Fatal("Value of an unknown pixel", m, x, j, r, e)
			}
		}
		for _, y := range readings(&s, m) {
			checkValues(t, m, y, known)
		}
	}
}

func checkValues(t *testing.T, m api.Mask, y, known []int) {
	t.Helper()
	possible := rankOf(columnsOf(m, upTo(len(m[0])), y)) == rankOf(m)
	for j := range m[0] {
		r, e := lin.Value(m, y, j)
		switch {
		case !slices.Contains(known, j):
			if (r != api.Ratio{}) || e != api.ErrNone {
				t.Fatal("Value of an unknown pixel", m, y, j, r, e)
			}
		case !possible:
			if (r != api.Ratio{}) || e != api.ErrState {
				t.Fatal("Value of an impossible reading", m, y, j, r, e)
			}
		default:
			x, _ := lin.Any(m, y)
			z, _ := lin.Weight(m, j)
			if e != api.OK || !validRatio(r) || r != x[j] || r != lowest(dot(z, y), backOf(m, z)[j]) {
				t.Fatal("Value", m, y, j, r, e)
			}
		}
	}
}

// Each error is told ahead of all that come after it.
func TestErrorsOfValue(t *testing.T) {
	check := func(m api.Mask, y []int, pixel int, want api.Errno) {
		t.Helper()
		if r, e := lin.Value(m, y, pixel); r != (api.Ratio{}) || e != want {
			t.Error("Value", m, y, pixel, r, e, "for the error", want)
		}
	}
	for _, m := range wrongMasks() {
		check(m, filled(len(m), 0), 0, api.ErrInvalid)
		check(m, nil, -1, api.ErrInvalid)
		check(m, filled(len(m)+1, top+1), 100, api.ErrInvalid)
	}
	// Two equal rows, so that some readings are impossible; the pixels 0 and 1 are not known, and 2 is not either.
	like := api.Mask{{1, 1, 0}, {1, 1, 0}}
	for _, c := range wrongReadings() {
		for pixel := -1; pixel < 4; pixel++ {
			check(half(), c.y, pixel, c.e)
			check(like, c.y, pixel, c.e)
		}
	}
	for _, pixel := range wrongNames() {
		check(half(), []int{1, 1}, pixel, api.ErrName)
		check(like, []int{1, 1}, pixel, api.ErrName)
		check(like, []int{1, 2}, pixel, api.ErrName)
	}
	for pixel := range 3 {
		check(like, []int{1, 1}, pixel, api.ErrNone)
		check(like, []int{1, 2}, pixel, api.ErrNone)
	}
	// The pixel 1 is known, and the reading is impossible.
	check(api.Mask{{0, 1, 0}, {0, 1, 0}}, []int{1, 2}, 1, api.ErrState)
	check(api.Mask{{0, 1, 0}, {0, 1, 0}}, []int{1, 2}, 0, api.ErrNone)
	// What is impossible is in rows that the pixel is not in.
	check(api.Mask{{1, 0}, {0, 0}}, []int{1, 1}, 0, api.ErrState)
	check(api.Mask{{1, 0}, {0, 1}, {0, 1}}, []int{1, 1, -1}, 0, api.ErrState)
}
