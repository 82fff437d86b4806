package fault_test

import (
	"math"
	"slices"
	"testing"

	"lightsieve/api"
	"lightsieve/fault"
)

// two is the mask of the document's example, with six faults.
func two() api.Mask {
	return api.Mask{{1, -1}}
}

func whole() api.Fault          { return api.Fault{} }
func dead(i int) api.Fault      { return api.Fault{Kind: api.FDead, Row: i} }
func dark(j int) api.Fault      { return api.Fault{Kind: api.FDark, Pixel: j} }
func turned(i, j int) api.Fault { return api.Fault{Kind: api.FTurn, Row: i, Pixel: j} }

func filled(n, value int) []int {
	return slices.Repeat([]int{value}, n)
}

// numbers is a fixed row of numbers that look like chance.
type numbers uint64

func (s *numbers) below(n int) int {
	*s = *s*6364136223846793005 + 1442695040888963407
	return int(uint64(*s)>>33) % n
}

func (s *numbers) list(n, lo, hi int) []int {
	l := make([]int, n)
	for i := range l {
		l[i] = lo + s.below(hi-lo+1)
	}
	return l
}

func (s *numbers) lists(count, n, lo, hi int) [][]int {
	all := make([][]int, count)
	for i := range all {
		all[i] = s.list(n, lo, hi)
	}
	return all
}

// sparse pictures have few numbers that are not 0.
func (s *numbers) sparse(count, n int) [][]int {
	all := make([][]int, count)
	for i := range all {
		all[i] = filled(n, 0)
		for range 1 + s.below(2) {
			all[i][s.below(n)] = s.below(5) - 2
		}
	}
	return all
}

// smallMasks are all with up to so many numbers.
func smallMasks(most int) []api.Mask {
	var all []api.Mask
	for rows := 1; rows <= 6; rows++ {
		for pixels := 1; pixels <= 10 && rows*pixels <= most; pixels++ {
			count := 1
			for range rows * pixels {
				count *= 3
			}
			for code := range count {
				m := make(api.Mask, rows)
				for k := range rows * pixels {
					m[k/pixels] = append(m[k/pixels], code%3-1)
					code /= 3
				}
				all = append(all, m)
			}
		}
	}
	return all
}

// largeMasks have every size, and some rows and pixels of zeros or with a single number.
func largeMasks() []api.Mask {
	var all []api.Mask
	s := numbers(9)
	for rows := 1; rows <= 6; rows++ {
		for pixels := 1; pixels <= 10; pixels++ {
			m := api.Mask(s.lists(rows, pixels, -1, 1))
			all = append(all, m)
			thin := make(api.Mask, rows)
			for i, row := range m {
				thin[i] = slices.Clone(row)
				for j := range row {
					if s.below(3) > 0 {
						thin[i][j] = 0
					}
				}
			}
			all = append(all, thin)
		}
	}
	return append(all, slices.Repeat(api.Mask{filled(10, 1)}, 6), slices.Repeat(api.Mask{filled(10, 0)}, 6))
}

func masks() []api.Mask {
	return append(smallMasks(5), largeMasks()...)
}

func sameLists(a, b [][]int) bool {
	return slices.EqualFunc(a, b, func(x, y []int) bool { return slices.Equal(x, y) })
}

func wrongMasks() []api.Mask {
	return []api.Mask{nil, {}, {{}}, {nil, nil}, {{2, -1}}, {{1, -2}}, {{1, -1}, {0}}, {{1, -1}, {0, 1, 1}}, {{1, -1}, nil},
		slices.Repeat(api.Mask{{1, -1}}, 7), {filled(11, 1)}, {{math.MinInt, -1}}, {{1, math.MaxInt}}}
}

// wrongFaults are none of the mask two.
func wrongFaults() []api.Fault {
	return []api.Fault{
		{Kind: -1}, {Kind: 4}, {Kind: 5}, {Kind: math.MinInt}, {Kind: math.MaxInt}, {Kind: 256}, {Kind: 1 << 32},
		{Kind: api.FNone, Row: 1}, {Kind: api.FNone, Pixel: 1}, {Kind: api.FNone, Row: -1}, {Kind: api.FNone, Pixel: -1}, {Kind: api.FNone, Row: 1, Pixel: 1},
		dead(1), dead(-1), dead(6), dead(math.MinInt), dead(math.MaxInt), {Kind: api.FDead, Pixel: 1}, {Kind: api.FDead, Pixel: -1}, {Kind: api.FDead, Row: 1, Pixel: 1},
		dark(2), dark(-1), dark(10), dark(math.MinInt), dark(math.MaxInt), {Kind: api.FDark, Row: 1}, {Kind: api.FDark, Row: -1, Pixel: 1}, {Kind: api.FDark, Row: 1, Pixel: 1},
		turned(1, 0), turned(0, 2), turned(-1, 0), turned(0, -1), turned(1, 1), turned(math.MaxInt, 0), turned(0, math.MinInt),
	}
}

// wrongPictures are none that are shown to the mask two.
func wrongPictures() [][]int {
	return [][]int{nil, {}, {0}, {0, 0, 0}, filled(10, 0), {1000001, 0}, {0, -1000001}, {-1000001, 0}, {0, 1000001}, {math.MinInt, 0}, {0, math.MaxInt}}
}

// faultsOf are all valid faults in their order.
func faultsOf(m api.Mask) []api.Fault {
	all := []api.Fault{whole()}
	for i := range len(m) {
		all = append(all, dead(i))
	}
	for j := range len(m[0]) {
		all = append(all, dark(j))
	}
	for i := range len(m) {
		for j := range len(m[0]) {
			if m[i][j] != 0 {
				all = append(all, turned(i, j))
			}
		}
	}
	return all
}

// faultyOf asks for each number what has become of it.
func faultyOf(m api.Mask, f api.Fault) api.Mask {
	n := make(api.Mask, len(m))
	for i := range m {
		n[i] = make([]int, len(m[0]))
		for j := range m[i] {
			switch {
			case f.Kind == api.FDead && f.Row == i, f.Kind == api.FDark && f.Pixel == j:
			case f.Kind == api.FTurn && f.Row == i && f.Pixel == j:
				n[i][j] = -m[i][j]
			default:
				n[i][j] = m[i][j]
			}
		}
	}
	return n
}

// allOf is what All must return.
func allOf(m api.Mask) []api.Fault {
	var all []api.Fault
	for _, f := range faultsOf(m) {
		isNew := true
		for _, g := range all {
			isNew = isNew && !sameLists(faultyOf(m, f), faultyOf(m, g))
		}
		if isNew {
			all = append(all, f)
		}
	}
	return all
}

// readOf is what the mask reads with a fault.
func readOf(m api.Mask, f api.Fault, x []int) []int {
	var y []int
	for _, row := range faultyOf(m, f) {
		sum := 0
		for j, n := range row {
			sum += n * x[j]
		}
		y = append(y, sum)
	}
	return y
}

func TestExamples(t *testing.T) {
	want := []api.Fault{whole(), dead(0), dark(0), dark(1), turned(0, 0), turned(0, 1)}
	if all, e := fault.All(two()); e != api.OK || !slices.Equal(all, want) {
		t.Error("All", all, e)
	}
	for i, y := range []int{-1, 0, -2, 1, -3, 3} {
		if l, e := fault.Reads(two(), want[i], []int{1, 2}); e != api.OK || !slices.Equal(l, []int{y}) {
			t.Error("Reads", want[i], l, e)
		}
	}
	if enough, e := fault.Enough(two(), [][]int{{1, 2}}); e != api.OK || !enough {
		t.Error("Enough", enough, e)
	}
}

// The kinds are the numbers of package api.
func TestKinds(t *testing.T) {
	all, _ := fault.All(two())
	var kinds []int
	for _, f := range all {
		kinds = append(kinds, f.Kind)
	}
	if !slices.Equal(kinds, []int{0, 1, 2, 2, 3, 3}) {
		t.Error(kinds)
	}
}

func TestValid(t *testing.T) {
	for _, m := range masks() {
		right := faultsOf(m)
		for kind := -1; kind <= 4; kind++ {
			for row := -1; row <= len(m); row++ {
				for pixel := -1; pixel <= len(m[0]); pixel++ {
					f := api.Fault{Kind: kind, Row: row, Pixel: pixel}
					if is := fault.Valid(m, f); is != slices.Contains(right, f) {
						t.Fatal("Valid", m, f, is)
					}
				}
			}
		}
	}
	for _, f := range wrongFaults() {
		if fault.Valid(two(), f) {
			t.Error("valid:", f)
		}
	}
	for _, m := range wrongMasks() {
		for _, f := range faultsOf(two()) {
			if fault.Valid(m, f) {
				t.Error("valid for", m, f)
			}
		}
	}
}

// A number that is 0 can't be turned, wherever it is.
func TestTurnsOfZeros(t *testing.T) {
	m := api.Mask{{0, 1, -1}, {1, 0, 0}}
	for _, f := range []api.Fault{turned(0, 0), turned(1, 1), turned(1, 2)} {
		if fault.Valid(m, f) {
			t.Error("valid:", f)
		}
		if n, e := fault.Faulty(m, f); len(n) != 0 || e != api.ErrInvalid {
			t.Error("Faulty", f, n, e)
		}
	}
	for _, f := range []api.Fault{turned(0, 1), turned(0, 2), turned(1, 0)} {
		if !fault.Valid(m, f) {
			t.Error("not valid:", f)
		}
	}
}

func TestAll(t *testing.T) {
	for _, c := range []struct {
		m    api.Mask
		want []api.Fault
	}{
		{api.Mask{{0}}, []api.Fault{whole()}},
		// The dark pixel is the dead row.
		{api.Mask{{1}}, []api.Fault{whole(), dead(0), turned(0, 0)}},
		{api.Mask{{-1}, {0}}, []api.Fault{whole(), dead(0), turned(0, 0)}},
		// The dead row 1 and the dark pixel 0 are of zeros.
		{api.Mask{{0, 1, 1}, {0, 0, 0}}, []api.Fault{whole(), dead(0), dark(1), dark(2), turned(0, 1), turned(0, 2)}},
		// The row 0 has a single number, and so has the pixel 1, but not the same one.
		{api.Mask{{1, 0}, {1, -1}}, []api.Fault{whole(), dead(0), dead(1), dark(0), dark(1), turned(0, 0), turned(1, 0), turned(1, 1)}},
		// Each row and each pixel has the same single number.
		{api.Mask{{0, 1}, {-1, 0}}, []api.Fault{whole(), dead(0), dead(1), turned(0, 1), turned(1, 0)}},
		{slices.Repeat(api.Mask{filled(10, 0)}, 6), []api.Fault{whole()}},
	} {
		if all, e := fault.All(c.m); e != api.OK || !slices.Equal(all, c.want) {
			t.Error("All", c.m, all, e)
		}
	}
	if all, e := fault.All(slices.Repeat(api.Mask{filled(10, 1)}, 6)); e != api.OK || len(all) != 77 {
		t.Error("All of a full mask", len(all), e)
	}
	for _, m := range masks() {
		if all, e := fault.All(m); e != api.OK || !slices.Equal(all, allOf(m)) || all[0] != whole() {
			t.Error("All", m, all, e)
		}
	}
}

func TestFaulty(t *testing.T) {
	m := api.Mask{{1, 0, -1}, {1, 1, 1}}
	for _, c := range []struct {
		f    api.Fault
		want api.Mask
	}{
		{whole(), api.Mask{{1, 0, -1}, {1, 1, 1}}},
		{dead(0), api.Mask{{0, 0, 0}, {1, 1, 1}}},
		{dead(1), api.Mask{{1, 0, -1}, {0, 0, 0}}},
		{dark(0), api.Mask{{0, 0, -1}, {0, 1, 1}}},
		{dark(1), api.Mask{{1, 0, -1}, {1, 0, 1}}},
		{dark(2), api.Mask{{1, 0, 0}, {1, 1, 0}}},
		{turned(0, 0), api.Mask{{-1, 0, -1}, {1, 1, 1}}},
		{turned(0, 2), api.Mask{{1, 0, 1}, {1, 1, 1}}},
		{turned(1, 1), api.Mask{{1, 0, -1}, {1, -1, 1}}},
	} {
		if n, e := fault.Faulty(m, c.f); e != api.OK || !sameLists(n, c.want) {
			t.Error("Faulty", c.f, n, e)
		}
	}
	for _, m := range masks() {
		for _, f := range faultsOf(m) {
			if n, e := fault.Faulty(m, f); e != api.OK || !sameLists(n, faultyOf(m, f)) {
				t.Fatal("Faulty", m, f, n, e)
			}
		}
	}
}

func TestReads(t *testing.T) {
	s := numbers(1)
	for _, m := range masks() {
		for _, x := range append(s.lists(2, len(m[0]), -1000000, 1000000), filled(len(m[0]), 0)) {
			for _, f := range faultsOf(m) {
				if y, e := fault.Reads(m, f, x); e != api.OK || !slices.Equal(y, readOf(m, f, x)) {
					t.Fatal("Reads", m, f, x, y, e)
				}
			}
		}
	}
}

func TestReadsBeyondMaxValue(t *testing.T) {
	m := api.Mask{filled(10, 1), filled(10, -1)}
	for _, c := range []struct {
		f    api.Fault
		want []int
	}{
		{whole(), []int{10000000, -10000000}},
		{dead(0), []int{0, -10000000}},
		{dark(9), []int{9000000, -9000000}},
		{turned(1, 3), []int{10000000, -8000000}},
	} {
		if y, e := fault.Reads(m, c.f, filled(10, 1000000)); e != api.OK || !slices.Equal(y, c.want) {
			t.Error("Reads", c.f, y, e)
		}
		test := []api.Test{{Shown: filled(10, 1000000), Read: c.want}}
		if is, e := fault.Explains(m, c.f, test); e != api.OK || !is {
			t.Error("Explains", c.f, is, e)
		}
	}
}

func TestOne(t *testing.T) {
	for _, c := range []struct {
		m    api.Mask
		f, g api.Fault
		want bool
	}{
		{two(), whole(), whole(), true},
		{two(), whole(), dead(0), false},
		{two(), dark(0), dark(1), false},
		{two(), turned(0, 0), turned(0, 1), false},
		{api.Mask{{1}}, dead(0), dark(0), true},
		{api.Mask{{1}}, dark(0), turned(0, 0), false},
		{api.Mask{{0}}, dead(0), whole(), true},
		{api.Mask{{0}}, whole(), dark(0), true},
		{api.Mask{{0, 0}, {1, 1}}, dead(0), whole(), true},
		{api.Mask{{0, 0}, {1, 1}}, dead(0), dead(1), false},
		{api.Mask{{0, 1}, {0, 1}}, dark(0), whole(), true},
		{api.Mask{{0, 1}, {0, 1}}, dead(0), dark(1), false},
	} {
		if is, e := fault.One(c.m, c.f, c.g); e != api.OK || is != c.want {
			t.Error("One", c.m, c.f, c.g, is, e)
		}
	}
	for _, m := range append(smallMasks(4), largeMasks()...) {
		for _, f := range faultsOf(m) {
			for _, g := range faultsOf(m) {
				if is, e := fault.One(m, f, g); e != api.OK || is != sameLists(faultyOf(m, f), faultyOf(m, g)) {
					t.Fatal("One", m, f, g, is, e)
				}
			}
		}
	}
}
