package lin_test

import (
	"math"
	"slices"
	"testing"

	"lightsieve/api"
	"lightsieve/lin"
)

func TestPossible(t *testing.T) {
	for _, c := range []struct {
		m    api.Mask
		y    []int
		want bool
	}{
		{two(), []int{5, -7}, true}, {two(), []int{top, -top}, true}, {api.Mask{{0}}, []int{0}, true}, {api.Mask{{0}}, []int{1}, false}, {api.Mask{{1}, {1}}, []int{2, 2}, true}, {api.Mask{{1}, {1}}, []int{2, 3}, false}, {api.Mask{{1}, {-1}}, []int{2, -2}, true}, {api.Mask{{1}, {-1}}, []int{2, 2}, false},
		{api.Mask{{1, 1, 0}, {0, 1, 1}, {1, 0, -1}}, []int{5, 3, 2}, true}, {api.Mask{{1, 1, 0}, {0, 1, 1}, {1, 0, -1}}, []int{5, 3, 3}, false},
		// A reading that fractions alone can make.
		{api.Mask{{1, 1}, {1, -1}}, []int{1, 0}, true}, {full(6, 10, 0), filled(6, 0), true}, {full(6, 10, 0), []int{0, 0, 0, 0, 0, 1}, false}, {full(6, 10, 1), filled(6, top), true},
	} {
		if is, e := lin.Possible(c.m, c.y); is != c.want || e != api.OK {
			t.Error("Possible", c.m, c.y, is, e)
		}
	}
}

// P3.5.
func TestPictureOrConflict(t *testing.T) {
	var s numbers
	for _, m := range masks() {
		for _, y := range readings(&s, m) {
			checkPossible(t, m, y)
		}
		if y := readOf(m, s.list(len(m[0]), top/10)); !isPossible(t, m, y) {
			t.Fatal("the reading of a shown picture is impossible", m, y)
		}
	}
	for _, m := range smallMasks() {
		for _, y := range lists(min(len(m), 3), 1) {
			checkPossible(t, m, append(y, filled(len(m)-len(y), 0)...))
		}
	}
}

func isPossible(t *testing.T, m api.Mask, y []int) bool {
	t.Helper()
	is, e := lin.Possible(m, y)
	if e != api.OK {
		t.Fatal("Possible", m, y, e)
	}
	return is
}

func checkPossible(t *testing.T, m api.Mask, y []int) {
	t.Helper()
	want := rankOf(columnsOf(m, upTo(len(m[0])), y)) == rankOf(m)
	if isPossible(t, m, y) != want {
		t.Fatal("Possible", m, y, !want)
	}
	z, e := lin.Conflict(m, y)
	x, f := lin.Any(m, y)
	if !want {
		if e != api.OK || !denies(m, y, z) || !lin.Denies(m, y, z) || len(x) != 0 || f != api.ErrState {
			t.Fatal("an impossible reading", m, y, z, e, x, f)
		}
		return
	}
	if len(z) != 0 || e != api.ErrNone || f != api.OK || !made(m, x, y) || !lin.Makes(m, x, y) {
		t.Fatal("a possible reading", m, y, z, e, x, f)
	}
	for _, j := range freeOf(m) {
		if x[j] != ratio(0, 1) {
			t.Fatal("Any at a free pixel", m, y, x)
		}
	}
}

func denies(m api.Mask, y, z []int) bool {
	return len(z) == len(m) && within(z, top) && zeros(backOf(m, z)) && dot(z, y) != 0
}

func TestAny(t *testing.T) {
	for _, c := range []struct {
		m    api.Mask
		y    []int
		want []api.Ratio
	}{
		{two(), []int{1, 1}, []api.Ratio{{N: 0, D: 1}, {N: 1, D: 1}, {N: 0, D: 1}}}, {two(), []int{7, 11}, []api.Ratio{{N: -4, D: 1}, {N: 11, D: 1}, {N: 0, D: 1}}},
		{api.Mask{{0, 1, 1}}, []int{5}, []api.Ratio{{N: 0, D: 1}, {N: 5, D: 1}, {N: 0, D: 1}}}, {api.Mask{{0}}, []int{0}, []api.Ratio{{N: 0, D: 1}}},
		{api.Mask{{1, 1}, {1, -1}}, []int{1, 0}, []api.Ratio{{N: 1, D: 2}, {N: 1, D: 2}}}, {half(), []int{top, top - 1}, []api.Ratio{{N: 2*top - 1, D: 2}, {N: 1, D: 2}, {N: 0, D: 1}}},
	} {
		if x, e := lin.Any(c.m, c.y); e != api.OK || !slices.Equal(x, c.want) {
			t.Error("Any", c.m, c.y, x, e)
		}
	}
}

func TestErrorsOfReadings(t *testing.T) {
	check := func(m api.Mask, y []int, want api.Errno) {
		t.Helper()
		if is, e := lin.Possible(m, y); is || e != want {
			t.Error("Possible", m, y, is, e, "for the error", want)
		}
		if z, e := lin.Conflict(m, y); len(z) != 0 || e != want {
			t.Error("Conflict", m, y, z, e, "for the error", want)
		}
		if x, e := lin.Any(m, y); len(x) != 0 || e != want {
			t.Error("Any", m, y, x, e, "for the error", want)
		}
		if lin.Denies(m, y, filled(len(m), 1)) || lin.Denies(m, y, nil) {
			t.Error("Denies", m, y)
		}
	}
	for _, c := range wrongReadings() {
		for _, m := range []api.Mask{two(), half(), full(2, 10, 0), {{1, 1}, {-1, -1}}} {
			check(m, c.y, c.e)
		}
	}
	for _, m := range wrongMasks() {
		check(m, filled(len(m), 0), api.ErrInvalid)
		check(m, filled(len(m), 1), api.ErrInvalid)
		check(m, nil, api.ErrInvalid)
		check(m, filled(len(m)+1, top+1), api.ErrInvalid)
	}
}

func TestDenies(t *testing.T) {
	like := api.Mask{{1, 0}, {1, 0}}
	for _, c := range []struct {
		m    api.Mask
		y, z []int
		want bool
	}{
		{like, []int{1, 2}, []int{1, -1}, true}, {like, []int{1, 2}, []int{-1, 1}, true}, {like, []int{1, 2}, []int{top, -top}, true}, {like, []int{2, 2}, []int{1, -1}, false}, {like, []int{1, 2}, []int{1, 1}, false}, {like, []int{1, 2}, []int{1, 0}, false}, {like, []int{1, 2}, []int{0, 0}, false},
		{like, []int{1, 2}, []int{top + 1, -top - 1}, false}, {like, []int{1, 2}, []int{1000000000, -1000000000}, false}, {like, []int{1, 2}, []int{math.MinInt, math.MinInt}, false}, {like, []int{1, 2}, []int{math.MaxInt, -math.MaxInt}, false},
		{like, []int{1, 2}, nil, false}, {like, []int{1, 2}, []int{}, false}, {like, []int{1, 2}, []int{1}, false}, {like, []int{1, 2}, []int{1, -1, 0}, false},
		{like, []int{top + 1, 2}, []int{1, -1}, false}, {like, []int{1, -top - 1}, []int{1, -1}, false}, {like, []int{1}, []int{1, -1}, false}, {like, []int{1, 2, 0}, []int{1, -1}, false}, {like, nil, []int{1, -1}, false},
		{api.Mask{{0}}, []int{1}, []int{1}, true}, {api.Mask{{0}}, []int{1}, []int{-5}, true}, {api.Mask{{0}}, []int{0}, []int{1}, false}, {api.Mask{{0}}, []int{top}, []int{top}, true}, {api.Mask{{1}}, []int{1}, []int{1}, false},
		{full(6, 10, 0), filled(6, top), filled(6, top), true}, {full(6, 10, 0), filled(6, top), filled(6, -top), true}, {full(6, 10, 0), filled(6, top), []int{1, -1, 1, -1, 1, -1}, false},
	} {
		if is := lin.Denies(c.m, c.y, c.z); is != c.want {
			t.Error("Denies", c.m, c.y, c.z, is)
		}
	}
	var s numbers
	for _, m := range smallMasks() {
		if len(m) > 3 {
			continue
		}
		y := s.list(len(m), 2)
		for _, z := range lists(len(m), 2) {
			if is := lin.Denies(m, y, z); is != denies(m, y, z) {
				t.Fatal("Denies", m, y, z, is)
			}
		}
	}
}
