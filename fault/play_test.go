package fault_test

import (
	"slices"
	"testing"

	"lightsieve/api"
	"lightsieve/fault"
)

// leavesOf is the greatest number of faults that read the same of a picture.
func leavesOf(m api.Mask, left []api.Fault, x []int) int {
	var readings [][]int
	for _, f := range left {
		readings = append(readings, readOf(m, f, x))
	}
	most := 0
	for _, y := range readings {
		n := 0
		for _, z := range readings {
			if slices.Equal(y, z) {
				n++
			}
		}
		most = max(most, n)
	}
	return most
}

// bestOf is the first picture that leaves as few as any does, and how many these are.
func bestOf(m api.Mask, left []api.Fault, shown [][]int) (int, int) {
	var leaves []int
	for _, x := range shown {
		leaves = append(leaves, leavesOf(m, left, x))
	}
	least := slices.Min(leaves)
	return slices.Index(leaves, least), least
}

// playOf is what Play must return.
func playOf(m api.Mask, hidden api.Fault, shown [][]int) []api.Test {
	var t []api.Test
	for len(shown) > 0 && len(t) < 12 {
		left := whichOf(m, t)
		i, least := bestOf(m, left, shown)
		if len(left) <= 1 || least >= len(left) {
			break
		}
		t = append(t, test(shown[i], readOf(m, hidden, shown[i])...))
	}
	return t
}

func sameTests(a, b []api.Test) bool {
	return slices.EqualFunc(a, b, func(x, y api.Test) bool {
		return slices.Equal(x.Shown, y.Shown) && slices.Equal(x.Read, y.Read)
	})
}

func TestBest(t *testing.T) {
	zero, one, other, both := []int{0, 0}, []int{1, 0}, []int{0, 1}, []int{1, 2}
	for _, c := range []struct {
		t     []api.Test
		shown [][]int
		want  int
	}{
		{nil, [][]int{both}, 0},
		{nil, [][]int{zero}, 0},
		{nil, [][]int{zero, both}, 1},
		{nil, [][]int{zero, one, {1, 1}, both, {1, 3}}, 3},
		// The pixels leave three each, and {1, 1} leaves two.
		{nil, [][]int{one, other}, 0},
		{nil, [][]int{zero, other, one}, 1},
		{nil, [][]int{one, {1, 1}, other}, 1},
		// What was seen is not seen again: no picture leaves fewer, and the first one is told.
		{[]api.Test{test(both, -1)}, [][]int{zero, one, both}, 0},
		{[]api.Test{test(one, 1)}, [][]int{one, zero, other, both}, 2},
		{[]api.Test{test(one, 1)}, [][]int{one, zero}, 0},
		{[]api.Test{test(one, 1), test(other, -1)}, [][]int{both, one}, 0},
		{[]api.Test{test([]int{1, 1}, 0)}, [][]int{zero, one, other, both}, 1},
	} {
		if i, e := fault.Best(two(), c.t, c.shown); e != api.OK || i != c.want {
			t.Error("Best", c.t, c.shown, i, e)
		}
	}
}

// Without pictures, or where no fault explains the tests, none is best.
func TestBestOfNone(t *testing.T) {
	none := []api.Test{test([]int{1, 2}, 7)}
	for _, c := range []struct {
		t     []api.Test
		shown [][]int
	}{{nil, nil}, {nil, [][]int{}}, {none, [][]int{{1, 2}}}, {none, nil}, {[]api.Test{test([]int{1, 2}, -1)}, nil}} {
		if i, e := fault.Best(two(), c.t, c.shown); e != api.ErrNone || i != 0 {
			t.Error("Best", c.t, c.shown, i, e)
		}
	}
}

// The same numbers of other rows are not the same reading.
func TestBestOfEachRow(t *testing.T) {
	m := api.Mask{{1, 0}, {0, 1}}
	left := whichOf(m, nil)
	for _, x := range [][]int{{1, 1}, {1, 0}, {11, 1}, {1, 11}, {1, -1}, {2, 1}} {
		shown := [][]int{{0, 0}, x, {1, 2}}
		want, _ := bestOf(m, left, shown)
		if i, e := fault.Best(m, nil, shown); e != api.OK || i != want {
			t.Error("Best", x, i, e)
		}
	}
}

func TestBestOfSamples(t *testing.T) {
	s := numbers(6)
	for _, m := range append(smallMasks(3), largeMasks()...) {
		all := faultsOf(m)
		for _, shown := range s.pictureSets(len(m[0]))[1:] {
			tests := testsOf(m, all[s.below(len(all))], s.sparse(s.below(4), len(m[0])))
			want, _ := bestOf(m, whichOf(m, tests), shown)
			if i, e := fault.Best(m, tests, shown); e != api.OK || i != want {
				t.Fatal("Best", m, tests, shown, i, want, e)
			}
		}
	}
}

func TestPlay(t *testing.T) {
	zero, one, other, both := []int{0, 0}, []int{1, 0}, []int{0, 1}, []int{1, 2}
	for _, c := range []struct {
		f     api.Fault
		shown [][]int
		want  []api.Test
	}{
		{whole(), nil, nil},
		{dark(1), [][]int{zero}, nil},
		{dark(1), [][]int{zero, zero}, nil},
		// It ends with one fault, as soon as it is known.
		{whole(), [][]int{both}, []api.Test{test(both, -1)}},
		{turned(0, 1), [][]int{zero, one, both, other}, []api.Test{test(both, 3)}},
		{turned(0, 0), [][]int{one, other}, []api.Test{test(one, -1)}},
		{turned(0, 1), [][]int{one, other}, []api.Test{test(one, 1), test(other, 1)}},
		{dead(0), [][]int{zero, other, one}, []api.Test{test(other, 0), test(one, 0)}},
		// It ends with two faults, since no picture parts them.
		{whole(), [][]int{{1, 1}, {2, 2}}, []api.Test{test([]int{1, 1}, 0)}},
		{whole(), [][]int{zero, {3, 0}}, []api.Test{test([]int{3, 0}, 3)}},
		{dark(0), [][]int{{1, 0}, {3, 0}}, []api.Test{test([]int{1, 0}, 0)}},
	} {
		if tests, e := fault.Play(two(), c.f, c.shown); e != api.OK || !sameTests(tests, c.want) {
			t.Error("Play", c.f, c.shown, tests, e)
		}
	}
	for _, m := range []api.Mask{{{0}}, {{0, 0}, {0, 0}}} {
		if tests, e := fault.Play(m, dead(0), [][]int{filled(len(m[0]), 5)}); e != api.OK || len(tests) != 0 {
			t.Error("Play with one fault alone", m, tests, e)
		}
	}
}

// The longest plays: each test parts a pixel from the others, and of MaxTests pictures two are not shown.
func TestLongPlay(t *testing.T) {
	for _, rows := range []int{1, 6} {
		m := slices.Repeat(api.Mask{filled(10, 1)}, rows)
		units := unitsOf(10)
		shown := slices.Concat([][]int{filled(10, 0)}, units, units[:1])
		tests, e := fault.Play(m, whole(), shown)
		if e != api.OK || !sameTests(tests, testsOf(m, whole(), units)) {
			t.Error("Play", tests, e)
		}
		checkWhich(t, m, tests, []api.Fault{whole()})
	}
}

// P9.5: the hidden fault explains the tests, and is alone if the pictures are enough.
func TestPlayOfSamples(t *testing.T) {
	s := numbers(7)
	for _, m := range append(smallMasks(3), largeMasks()...) {
		all := faultsOf(m)
		for _, shown := range append(s.pictureSets(len(m[0])), s.sparse(12, len(m[0]))) {
			hidden := all[s.below(len(all))]
			tests, e := fault.Play(m, hidden, shown)
			if e != api.OK || !sameTests(tests, playOf(m, hidden, shown)) {
				t.Fatal("Play", m, hidden, shown, tests, e)
			}
			checkPlayed(t, m, hidden, shown, tests)
		}
	}
}

func checkPlayed(t *testing.T, m api.Mask, hidden api.Fault, shown [][]int, tests []api.Test) {
	t.Helper()
	if is, e := fault.Explains(m, hidden, tests); e != api.OK || !is {
		t.Fatal("Explains", m, hidden, tests, is, e)
	}
	which, e := fault.Which(m, tests)
	if e != api.OK || !slices.ContainsFunc(which, func(f api.Fault) bool { return sameLists(faultyOf(m, f), faultyOf(m, hidden)) }) {
		t.Fatal("Which", m, hidden, tests, which, e)
	}
	if enough, _ := fault.Enough(m, shown); enough && len(which) != 1 {
		t.Fatal("Which", m, hidden, tests, which)
	}
}

// P8: a fault that is hidden from All, as it is one with an earlier one, is played as that one.
func TestPlayOfOneWithAnother(t *testing.T) {
	m := api.Mask{{0, 1}, {0, 0}}
	for _, c := range []struct{ hidden, first api.Fault }{{dark(1), dead(0)}, {dark(0), whole()}, {dead(1), whole()}} {
		tests, e := fault.Play(m, c.hidden, [][]int{{1, 1}})
		if e != api.OK || len(tests) != 1 {
			t.Error("Play", c.hidden, tests, e)
		}
		checkWhich(t, m, tests, []api.Fault{c.first})
	}
}

func TestPlayBeyondMaxValue(t *testing.T) {
	m, x := api.Mask{filled(10, 1)}, filled(10, 1000000)
	for _, c := range []struct {
		f    api.Fault
		read int
	}{{whole(), 10000000}, {dead(0), 0}, {dark(3), 9000000}, {turned(0, 9), 8000000}} {
		if tests, e := fault.Play(m, c.f, [][]int{x}); e != api.OK || !sameTests(tests, []api.Test{test(x, c.read)}) {
			t.Error("Play", c.f, tests, e)
		}
	}
}
