package fault_test

import (
	"math"
	"slices"
	"testing"

	"lightsieve/api"
	"lightsieve/fault"
)

func test(shown []int, read ...int) api.Test {
	return api.Test{Shown: shown, Read: read}
}

// testsOf are what the mask with a fault reads of pictures.
func testsOf(m api.Mask, f api.Fault, shown [][]int) []api.Test {
	var t []api.Test
	for _, x := range shown {
		t = append(t, api.Test{Shown: x, Read: readOf(m, f, x)})
	}
	return t
}

func explainsOf(m api.Mask, f api.Fault, t []api.Test) bool {
	return !slices.ContainsFunc(t, func(one api.Test) bool { return !slices.Equal(readOf(m, f, one.Shown), one.Read) })
}

// whichOf is what Which must return.
func whichOf(m api.Mask, t []api.Test) []api.Fault {
	return slices.DeleteFunc(allOf(m), func(f api.Fault) bool { return !explainsOf(m, f, t) })
}

// wrongTests are none of the mask two.
func wrongTests() []api.Test {
	wrong := []api.Test{test([]int{1, 2}), {Shown: []int{1, 2}, Read: []int{}}, test([]int{1, 2}, 1, 2), test([]int{1, 2}, 0, 0, 0), test([]int{1, 2}, filled(6, 0)...), {}}
	for _, x := range wrongPictures() {
		wrong = append(wrong, test(x, 0))
	}
	return wrong
}

func TestValidTests(t *testing.T) {
	right := test([]int{1000000, -1000000}, 5)
	for _, n := range []int{0, 1, 2, 11, 12} {
		if !fault.ValidTests(two(), slices.Repeat([]api.Test{right}, n)) {
			t.Error("not valid:", n)
		}
	}
	for _, n := range []int{13, 14, 1000} {
		if fault.ValidTests(two(), slices.Repeat([]api.Test{right}, n)) {
			t.Error("valid:", n)
		}
	}
	for _, n := range []int{0, 1000001, -1000000000, 10000001, 1 << 40, math.MinInt, math.MaxInt} {
		if !fault.ValidTests(two(), []api.Test{test([]int{0, 0}, n)}) {
			t.Error("not valid: to read", n)
		}
	}
	for _, wrong := range wrongTests() {
		for _, tests := range [][]api.Test{{wrong}, {right, wrong}, {wrong, right}, {right, wrong, right}} {
			if fault.ValidTests(two(), tests) {
				t.Error("valid:", tests)
			}
		}
	}
	for _, m := range wrongMasks() {
		if fault.ValidTests(m, nil) || fault.ValidTests(m, []api.Test{right}) {
			t.Error("valid for", m)
		}
	}
}

// A test shows a number for each pixel, and reads one for each row.
func TestLengthsOfTests(t *testing.T) {
	for rows := 1; rows <= 6; rows++ {
		for pixels := 1; pixels <= 10; pixels++ {
			m := slices.Repeat(api.Mask{filled(pixels, 1)}, rows)
			for n := range 12 {
				if is := fault.ValidTests(m, []api.Test{test(filled(n, 1), filled(rows, 0)...)}); is != (n == pixels) {
					t.Error("shown", n, "for", rows, pixels, is)
				}
				if is := fault.ValidTests(m, []api.Test{test(filled(pixels, 1), filled(n, 0)...)}); is != (n == rows) {
					t.Error("read", n, "for", rows, pixels, is)
				}
			}
		}
	}
}

func TestExplains(t *testing.T) {
	x := []int{1, 2}
	for _, c := range []struct {
		f    api.Fault
		t    []api.Test
		want bool
	}{
		{whole(), nil, true},
		{turned(0, 1), []api.Test{}, true},
		{whole(), []api.Test{test(x, -1)}, true},
		{whole(), []api.Test{test(x, 0)}, false},
		{dead(0), []api.Test{test(x, 0)}, true},
		{dark(0), []api.Test{test(x, -2), test([]int{5, 0}, 0)}, true},
		{dark(0), []api.Test{test(x, -2), test([]int{5, 0}, 5)}, false},
		{dark(0), []api.Test{test([]int{5, 0}, 5), test(x, -2)}, false},
		{turned(0, 0), []api.Test{test(x, -3), test(x, -3)}, true},
		{turned(0, 0), []api.Test{test(x, -3), test(x, 3)}, false},
		{whole(), []api.Test{test(x, math.MaxInt)}, false},
		{whole(), []api.Test{test(x, math.MinInt)}, false},
	} {
		if is, e := fault.Explains(two(), c.f, c.t); e != api.OK || is != c.want {
			t.Error("Explains", c.f, c.t, is, e)
		}
	}
}

// Each row must be read as it is told.
func TestExplainsEachRow(t *testing.T) {
	m := api.Mask{{1, 0}, {0, 1}, {1, 1}}
	for row := range 3 {
		y := []int{3, 4, 7}
		if is, e := fault.Explains(m, whole(), []api.Test{test([]int{3, 4}, y...)}); e != api.OK || !is {
			t.Error("Explains", y, is, e)
		}
		y[row]++
		if is, e := fault.Explains(m, whole(), []api.Test{test([]int{3, 4}, y...)}); e != api.OK || is {
			t.Error("Explains", y, is, e)
		}
	}
}

func TestWhichAndFirst(t *testing.T) {
	single := api.Mask{{0, 1}, {0, 0}}
	for _, c := range []struct {
		m    api.Mask
		t    []api.Test
		want []api.Fault
	}{
		{two(), nil, []api.Fault{whole(), dead(0), dark(0), dark(1), turned(0, 0), turned(0, 1)}},
		{two(), []api.Test{test([]int{1, 2}, -3)}, []api.Fault{turned(0, 0)}},
		{two(), []api.Test{test([]int{1, 1}, 0)}, []api.Fault{whole(), dead(0)}},
		{two(), []api.Test{test([]int{1, 0}, 1)}, []api.Fault{whole(), dark(1), turned(0, 1)}},
		{two(), []api.Test{test([]int{1, 0}, 1), test([]int{0, 1}, 1)}, []api.Fault{turned(0, 1)}},
		{two(), []api.Test{test([]int{1, 2}, 7)}, nil},
		{two(), []api.Test{test([]int{1, 0}, 1), test([]int{1, 0}, 0)}, nil},
		// A dark pixel 1 is told as the dead row 0, and a dead row 1 as no fault.
		{single, []api.Test{test([]int{1, 1}, 0, 0)}, []api.Fault{dead(0)}},
		{single, []api.Test{test([]int{1, 1}, 1, 0)}, []api.Fault{whole()}},
		{single, []api.Test{test([]int{1, 1}, 1, 1)}, nil},
	} {
		checkWhich(t, c.m, c.t, c.want)
	}
}

// checkWhich asks First as well: no fault is ErrNone there, and no error of Which.
func checkWhich(t *testing.T, m api.Mask, tests []api.Test, want []api.Fault) {
	t.Helper()
	if which, e := fault.Which(m, tests); e != api.OK || !slices.Equal(which, want) {
		t.Fatal("Which", m, tests, which, e)
	}
	first, e := fault.First(m, tests)
	if len(want) == 0 {
		if first != whole() || e != api.ErrNone {
			t.Fatal("First", m, tests, first, e)
		}
	} else if first != want[0] || e != api.OK {
		t.Fatal("First", m, tests, first, e)
	}
}

// P9.2: what is read with a fault, the faults that explain it, and that more tests leave no more.
func TestExplained(t *testing.T) {
	s := numbers(2)
	for _, m := range masks() {
		shown := append(s.sparse(3, len(m[0])), s.list(len(m[0]), -2, 2))
		all := faultsOf(m)
		hidden := all[s.below(len(all))]
		tests := testsOf(m, hidden, shown)
		left := len(all) + 1
		for n := range len(tests) + 1 {
			which := whichOf(m, tests[:n])
			checkWhich(t, m, tests[:n], which)
			if len(which) > left {
				t.Fatal("more tests leave more faults", m, tests[:n])
			}
			left = len(which)
			for _, f := range all {
				if is, e := fault.Explains(m, f, tests[:n]); e != api.OK || is != explainsOf(m, f, tests[:n]) || f == hidden && !is {
					t.Fatal("Explains", m, f, tests[:n], is, e)
				}
			}
		}
		tests[s.below(len(tests))].Read = s.list(len(m), -2, 2)
		checkWhich(t, m, tests, whichOf(m, tests))
	}
}
