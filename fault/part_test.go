package fault_test

import (
	"slices"
	"testing"

	"lightsieve/api"
	"lightsieve/fault"
)

func partOf(m api.Mask, f, g api.Fault, shown [][]int) bool {
	return slices.ContainsFunc(shown, func(x []int) bool { return !slices.Equal(readOf(m, f, x), readOf(m, g, x)) })
}

func unitsOf(n int) [][]int {
	all := make([][]int, n)
	for j := range all {
		all[j] = filled(n, 0)
		all[j][j] = 1
	}
	return all
}

// subset are the pictures of a set, which is written as bits.
func subset(shown [][]int, set int) ([][]int, []int) {
	var part [][]int
	var indexes []int
	for i, x := range shown {
		if set>>i&1 == 1 {
			part, indexes = append(part, x), append(indexes, i)
		}
	}
	return part, indexes
}

// parted is for two by two of the faults whether pictures part them.
func parted(m api.Mask, shown [][]int) []bool {
	all := allOf(m)
	var pairs []bool
	for _, f := range all {
		for _, g := range all {
			pairs = append(pairs, partOf(m, f, g, shown))
		}
	}
	return pairs
}

// fewestOf is what Fewest must return, of all sets of pictures.
func fewestOf(m api.Mask, shown [][]int) []int {
	want := parted(m, shown)
	_, fewest := subset(shown, 1<<len(shown)-1)
	for set := range 1 << len(shown) {
		part, indexes := subset(shown, set)
		isBefore := len(indexes) < len(fewest) || len(indexes) == len(fewest) && slices.Compare(indexes, fewest) < 0
		if isBefore && slices.Equal(parted(m, part), want) {
			fewest = indexes
		}
	}
	return fewest
}

// pictureSets are few pictures of several kinds, among them none, zeros and one that is shown twice.
func (s *numbers) pictureSets(n int) [][][]int {
	random, thin := s.lists(2, n, -2, 2), s.sparse(3, n)
	great := s.lists(2, n, -1000000, 1000000)
	return [][][]int{nil, {filled(n, 0)}, random, thin, {random[0], random[0], filled(n, 0), random[1]}, great, unitsOf(n)}
}

func TestPart(t *testing.T) {
	for _, c := range []struct {
		f, g  api.Fault
		shown [][]int
		want  bool
	}{
		{whole(), dead(0), nil, false},
		{whole(), dead(0), [][]int{}, false},
		{whole(), dead(0), [][]int{{0, 0}}, false},
		{whole(), dead(0), [][]int{{1, 1}}, false},
		{whole(), dead(0), [][]int{{1, 2}}, true},
		{whole(), dead(0), [][]int{{1, 1}, {1, 2}}, true},
		{whole(), dead(0), [][]int{{1, 2}, {1, 1}}, true},
		{whole(), whole(), [][]int{{1, 2}}, false},
		{dark(0), turned(0, 1), [][]int{{0, 1}}, true},
		{dark(0), turned(0, 0), [][]int{{0, 1}}, false},
		{dark(1), turned(0, 1), [][]int{{5, 0}, {7, 0}}, false},
	} {
		for _, pair := range [][2]api.Fault{{c.f, c.g}, {c.g, c.f}} {
			if is, e := fault.Part(two(), pair[0], pair[1], c.shown); e != api.OK || is != c.want {
				t.Error("Part", pair, c.shown, is, e)
			}
		}
	}
	s := numbers(3)
	for _, m := range append(smallMasks(4), largeMasks()...) {
		all := faultsOf(m)
		for _, shown := range s.pictureSets(len(m[0])) {
			for range 5 {
				f, g := all[s.below(len(all))], all[s.below(len(all))]
				if is, e := fault.Part(m, f, g, shown); e != api.OK || is != partOf(m, f, g, shown) {
					t.Fatal("Part", m, f, g, shown, is, e)
				}
			}
		}
	}
}

// Each row by itself may part two faults.
func TestPartByEachRow(t *testing.T) {
	m := slices.Repeat(api.Mask{{1, 1}}, 6)
	for i := range 6 {
		if is, e := fault.Part(m, whole(), dead(i), [][]int{{0, 1}}); e != api.OK || !is {
			t.Error("Part", i, is, e)
		}
		if is, e := fault.Part(m, turned(i, 0), turned(i, 1), [][]int{{1, 1}}); e != api.OK || is {
			t.Error("Part", i, is, e)
		}
	}
}

// No pictures part nothing, nor do pictures of zeros.
func TestClasses(t *testing.T) {
	for _, c := range []struct {
		m     api.Mask
		shown [][]int
		want  []int
	}{
		{two(), nil, []int{0, 0, 0, 0, 0, 0}},
		{two(), [][]int{{0, 0}, {0, 0}}, []int{0, 0, 0, 0, 0, 0}},
		{two(), [][]int{{1, 2}}, []int{0, 1, 2, 3, 4, 5}},
		{two(), [][]int{{1, 1}}, []int{0, 0, 2, 3, 4, 5}},
		{two(), [][]int{{1, 0}}, []int{0, 1, 1, 0, 4, 0}},
		{two(), [][]int{{0, 1}}, []int{0, 1, 0, 1, 0, 5}},
		{two(), [][]int{{1, 0}, {0, 1}}, []int{0, 1, 2, 3, 4, 5}},
		{two(), [][]int{{1, 0}, {1, 0}, {0, 0}}, []int{0, 1, 1, 0, 4, 0}},
		{api.Mask{{0}}, nil, []int{0}},
		{api.Mask{{0}}, [][]int{{7}}, []int{0}},
		{api.Mask{{1}}, [][]int{{7}}, []int{0, 1, 2}},
	} {
		if l, e := fault.Classes(c.m, c.shown); e != api.OK || !slices.Equal(l, c.want) {
			t.Error("Classes", c.m, c.shown, l, e)
		}
	}
}

// What is read of one picture is not taken for what is read of another one.
func TestClassesOfReadingsSideBySide(t *testing.T) {
	m := api.Mask{{1, 1}, {1, -1}}
	for _, shown := range [][][]int{{{1, 11}, {11, 1}}, {{11, 1}, {1, 11}}, {{1, 1}, {11, 1}}, {{1, 21}, {12, 1}, {-1, 1}}} {
		checkClasses(t, m, shown)
	}
}

// P9.3: two faults are in one class just if no picture parts them.
func checkClasses(t *testing.T, m api.Mask, shown [][]int) {
	t.Helper()
	all := allOf(m)
	var want []int
	isEnough := true
	for i, f := range all {
		first := slices.IndexFunc(all, func(g api.Fault) bool { return !partOf(m, f, g, shown) })
		want = append(want, first)
		isEnough = isEnough && first == i
	}
	if l, e := fault.Classes(m, shown); e != api.OK || !slices.Equal(l, want) {
		t.Fatal("Classes", m, shown, l, e)
	}
	if enough, e := fault.Enough(m, shown); e != api.OK || enough != isEnough {
		t.Fatal("Enough", m, shown, enough, e)
	}
}

func TestClassesOfSamples(t *testing.T) {
	s := numbers(4)
	for _, m := range append(smallMasks(4), largeMasks()...) {
		for _, shown := range s.pictureSets(len(m[0])) {
			checkClasses(t, m, shown)
		}
	}
}

func TestEnough(t *testing.T) {
	for _, c := range []struct {
		m     api.Mask
		shown [][]int
		want  bool
	}{
		{two(), nil, false},
		{two(), [][]int{{1, 2}}, true},
		{two(), [][]int{{1, 1}}, false},
		{two(), [][]int{{1, 1}, {1, 1}}, false},
		{two(), [][]int{{1, 0}, {0, 1}}, true},
		{api.Mask{{0}}, nil, true},
		{api.Mask{{0, 0}, {0, 0}}, [][]int{}, true},
		{api.Mask{{1}}, nil, false},
		{api.Mask{{1}}, [][]int{{0}}, false},
		{api.Mask{{1}}, [][]int{{0}, {-1}}, true},
	} {
		if is, e := fault.Enough(c.m, c.shown); e != api.OK || is != c.want {
			t.Error("Enough", c.m, c.shown, is, e)
		}
	}
}

// P9.3: units are enough, and further pictures part no less.
func TestUnits(t *testing.T) {
	for n := 1; n <= 10; n++ {
		for rows := 1; rows <= 6; rows++ {
			if l, e := fault.Units(slices.Repeat(api.Mask{filled(n, -1)}, rows)); e != api.OK || !sameLists(l, unitsOf(n)) {
				t.Error("Units", n, rows, l, e)
			}
		}
	}
	for _, m := range masks() {
		units, e := fault.Units(m)
		if e != api.OK || !sameLists(units, unitsOf(len(m[0]))) {
			t.Fatal("Units", m, units, e)
		}
		if enough, e := fault.Enough(m, units); e != api.OK || !enough {
			t.Fatal("Units are not enough", m, enough, e)
		}
		for _, more := range [][]int{filled(len(m[0]), 0), units[0], filled(len(m[0]), 1)} {
			if enough, e := fault.Enough(m, append(units[:len(units):len(units)], more)); e != api.OK || !enough {
				t.Fatal("less with", more, "for", m, enough, e)
			}
		}
	}
}

func TestFewest(t *testing.T) {
	for _, c := range []struct {
		m     api.Mask
		shown [][]int
		want  []int
	}{
		{two(), nil, nil},
		{two(), [][]int{{0, 0}}, nil},
		{two(), [][]int{{0, 0}, {0, 0}}, nil},
		{two(), [][]int{{1, 2}}, []int{0}},
		{two(), [][]int{{1, 0}, {0, 1}}, []int{0, 1}},
		{two(), [][]int{{1, 0}, {0, 1}, {1, 2}}, []int{2}},
		// The first list of several sets of one picture, and of two.
		{two(), [][]int{{0, 0}, {1, 3}, {1, 0}, {1, 2}}, []int{1}},
		{two(), [][]int{{1, 0}, {1, 0}, {0, 1}, {0, 1}}, []int{0, 2}},
		{two(), [][]int{{0, 0}, {1, 0}, {0, 1}, {2, 0}}, []int{1, 2}},
		// They need not part all faults, just what all pictures part.
		{two(), [][]int{{1, 0}, {2, 0}}, []int{0}},
		{two(), [][]int{{0, 0}, {3, 0}, {2, 0}}, []int{1}},
		{api.Mask{{0, 0}}, [][]int{{1, 2}, {3, 4}}, nil},
		{api.Mask{{1, 1, 1}}, unitsOf(3), []int{0, 1, 2}},
		{api.Mask{{1, 1, 1}}, [][]int{{1, 0, 0}, {1, 0, 0}, {0, 1, 0}, {0, 0, 0}, {0, 0, 1}, {0, 0, 2}}, []int{0, 2, 4}},
		{slices.Repeat(api.Mask{filled(10, 1)}, 6), unitsOf(10), []int{0, 1, 2, 3, 4, 5, 6, 7, 8, 9}},
	} {
		if l, e := fault.Fewest(c.m, c.shown); e != api.OK || !slices.Equal(l, c.want) {
			t.Error("Fewest", c.m, c.shown, l, e)
		}
	}
}

// The most sets: ten pictures are needed, and two more are there.
func TestFewestOfMaxTests(t *testing.T) {
	m := slices.Repeat(api.Mask{filled(10, 1)}, 6)
	for _, c := range []struct {
		shown [][]int
		want  []int
	}{
		{append([][]int{filled(10, 0), filled(10, 0)}, unitsOf(10)...), []int{2, 3, 4, 5, 6, 7, 8, 9, 10, 11}},
		{append(unitsOf(10), unitsOf(10)[:2]...), []int{0, 1, 2, 3, 4, 5, 6, 7, 8, 9}},
		{append(unitsOf(10)[8:], unitsOf(10)...), []int{0, 1, 2, 3, 4, 5, 6, 7, 8, 9}},
		{append(unitsOf(10), filled(10, 1), []int{1, 2, 3, 4, 5, 6, 7, 8, 9, 10}), []int{11}},
		{slices.Repeat([][]int{filled(10, 1)}, 12), []int{0}},
		{slices.Repeat([][]int{filled(10, 0)}, 12), nil},
	} {
		if l, e := fault.Fewest(m, c.shown); e != api.OK || !slices.Equal(l, c.want) {
			t.Error("Fewest", c.shown, l, e)
		}
	}
}

// P9.4
func TestFewestOfSamples(t *testing.T) {
	s := numbers(5)
	for _, m := range append(smallMasks(3), largeMasks()[:60]...) {
		if len(m)*len(m[0]) > 12 {
			continue
		}
		for _, shown := range append(s.pictureSets(len(m[0])), s.sparse(6, len(m[0])), s.lists(6, len(m[0]), 0, 1)) {
			if len(shown) > 6 {
				shown = shown[:6]
			}
			if l, e := fault.Fewest(m, shown); e != api.OK || !slices.Equal(l, fewestOf(m, shown)) {
				t.Fatal("Fewest", m, shown, l, e)
			}
		}
	}
}
