package sparse_test

import (
	"slices"
	"testing"

	"lightsieve/api"
	"lightsieve/sparse"
)

const mark = 12321

// given is what a call is handed, with spare capacity behind each slice.
type given struct {
	m               api.Mask
	y, pixels, a, b []int
	f               api.Fit
	k               int
}

func spare(l []int) []int {
	return append(slices.Clone(l), mark, mark, mark, mark)[:len(l)]
}

func newGiven(m api.Mask, y, pixels []int, k int) given {
	g := given{y: spare(y), pixels: spare(pixels), k: k}
	g.m = make(api.Mask, 0, len(m)+2)
	for _, row := range m {
		g.m = append(g.m, spare(row))
	}
	g.m = append(g.m, []int{mark}, []int{mark})[:len(m)]
	a, b, _ := sparse.Twins(m, k)
	g.a, g.b = spare(a), spare(b)
	if f, e := sparse.Sparsest(m, y); e == api.OK {
		g.f = api.Fit{Pixels: spare(f.Pixels), Values: append(f.Values, ratio(mark, 1), ratio(mark, 1))[:len(f.Values)]}
	}
	return g
}

// whole is all that the slices hold, with what lies behind them.
func (g given) whole() [][]int {
	all := [][]int{}
	for _, l := range append(slices.Clone(g.m[:cap(g.m)]), g.y, g.pixels, g.a, g.b, g.f.Pixels) {
		all = append(all, l[:cap(l)])
	}
	return all
}

func copyOf(lists [][]int) [][]int {
	var all [][]int
	for _, l := range lists {
		all = append(all, slices.Clone(l))
	}
	return all
}

// result is what a call answers: the lists themselves.
type result struct {
	numbers [][]int
	ratios  [][]api.Ratio
	e       api.Errno
}

func (r result) copy() result {
	c := result{e: r.e, numbers: copyOf(r.numbers)}
	for _, l := range r.ratios {
		c.ratios = append(c.ratios, slices.Clone(l))
	}
	return c
}

func (r result) equal(s result) bool {
	return r.e == s.e && equalLists(r.numbers, s.numbers) && slices.EqualFunc(r.ratios, s.ratios, func(a, b []api.Ratio) bool { return slices.Equal(a, b) })
}

func scribble(l []int) {
	for i := range l[:cap(l)] {
		l[:cap(l)][i] = -mark
	}
}

func scribbleRatios(l []api.Ratio) {
	for i := range l[:cap(l)] {
		l[:cap(l)][i] = ratio(-mark, 7)
	}
}

func (g given) scribble() {
	for _, l := range g.whole() {
		scribble(l)
	}
	scribbleRatios(g.f.Values)
}

func ofNumber(n int, e api.Errno) result {
	return result{numbers: [][]int{{n}}, e: e}
}

func ofTruth(is bool, e api.Errno) result {
	if is {
		return ofNumber(1, e)
	}
	return ofNumber(0, e)
}

func ofFits(e api.Errno, fits ...api.Fit) result {
	r := result{e: e}
	for _, f := range fits {
		r.numbers, r.ratios = append(r.numbers, f.Pixels), append(r.ratios, f.Values)
	}
	return r
}

func calls() map[string]func(g given) result {
	fit := func(f api.Fit, e api.Errno) result { return ofFits(e, f) }
	list := func(l []int, e api.Errno) result { return result{numbers: [][]int{l}, e: e} }
	rows := func(l [][]int, e api.Errno) result { return result{numbers: l, e: e} }
	ratios := func(l []api.Ratio, e api.Errno) result { return result{ratios: [][]api.Ratio{l}, e: e} }
	return map[string]func(g given) result{
		"Carries": func(g given) result { return ofTruth(sparse.Carries(g.m, g.y, g.pixels)) },
		"IsFit":   func(g given) result { return ofTruth(sparse.IsFit(g.m, g.y, g.f), 0) },
		"Fits": func(g given) result {
			l, e := sparse.Fits(g.m, g.y, g.k)
			return ofFits(e, l...)
		},
		"Sparsest": func(g given) result { return fit(sparse.Sparsest(g.m, g.y)) },
		"Size":     func(g given) result { return ofNumber(sparse.Size(g.m, g.y)) },
		"Count":    func(g given) result { return ofNumber(sparse.Count(g.m, g.y)) },
		"Only":     func(g given) result { return fit(sparse.Only(g.m, g.y)) },
		"Whole":    func(g given) result { return rows(sparse.Whole(g.m, g.y, g.k)) },
		"Rest":     func(g given) result { return ratios(sparse.Rest(g.m, g.y, g.pixels)) },
		"Next":     func(g given) result { return ofNumber(sparse.Next(g.m, g.y, g.pixels)) },
		"Pursuit":  func(g given) result { return list(sparse.Pursuit(g.m, g.y)) },
		"Greedy":   func(g given) result { return fit(sparse.Greedy(g.m, g.y)) },
		"Sure":     func(g given) result { return ofNumber(sparse.Sure(g.m)) },
		"Bound":    func(g given) result { return ofNumber(sparse.Bound(g.m)) },
		"Picture":  func(g given) result { return ratios(sparse.Picture(g.m, g.f)) },
		"Twins": func(g given) result {
			a, b, e := sparse.Twins(g.m, g.k)
			return result{numbers: [][]int{a, b}, e: e}
		},
		"IsTwins": func(g given) result { return ofTruth(sparse.IsTwins(g.m, g.k, g.a, g.b), 0) },
	}
}

// R4 and R7: a call leaves its arguments alone, what it answers is its own, list by list, and a second call answers the same.
func TestArgumentsAreLeftAlone(t *testing.T) {
	for name, call := range calls() {
		for _, g := range []given{
			newGiven(api.Mask{{1}}, []int{5}, []int{0}, 1), newGiven(two(), []int{1, 1}, []int{1}, 2), newGiven(two(), []int{3, 2}, []int{0, 2}, 3), newGiven(two(), []int{0, 0}, nil, 2), newGiven(twice(), []int{1, 2}, []int{0, 1}, 1), newGiven(twice(), []int{2, 2}, []int{0}, 2),
			newGiven(full(6, 10, 0), filled(6, 0), upTo(10), 10), newGiven(full(6, 10, 1), filled(6, 3), []int{2, 5}, 1), newGiven(besides(steep(), full(6, 4, 1)), []int{1, 2, 3, 4, 5, 6}, upTo(4), 10), newGiven(uneven(), []int{2, 2, 1, 0}, []int{0, 3}, 4), newGiven(api.Mask{{2, 1}}, []int{1, 1}, []int{1, 0}, 3),
			newGiven(api.Mask{{-1, -1, 0}, {1, 0, -1}, {1, 1, -1}}, []int{0, -2, 0}, []int{2}, 3),
		} {
			checkCall(t, name, call, g)
		}
	}
}

func checkCall(t *testing.T, name string, call func(g given) result, g given) {
	t.Helper()
	kept, values := copyOf(g.whole()), slices.Clone(g.f.Values[:cap(g.f.Values)])
	first := call(g)
	want := first.copy()
	second := call(g)
	if !second.equal(want) {
		t.Error(name, "answers", want, "and then", second)
	}
	for _, l := range second.numbers {
		scribble(l)
	}
	for _, l := range second.ratios {
		scribbleRatios(l)
	}
	if !equalLists(g.whole(), kept) || !slices.Equal(g.f.Values[:cap(g.f.Values)], values) {
		t.Error(name, "changes its arguments, or answers their memory", g)
	}
	g.scribble()
	if !first.equal(want) {
		t.Error(name, "keeps its arguments, or answers the same memory twice", g)
	}
	checkApart(t, name, first, want)
}

// checkApart writes over one list after another, with its spare capacity, and looks at those behind it.
func checkApart(t *testing.T, name string, r, want result) {
	t.Helper()
	for i, l := range r.numbers {
		scribble(l)
		if !equalLists(r.numbers[i+1:], want.numbers[i+1:]) {
			t.Error(name, "answers lists that share memory")
		}
	}
	for i, l := range r.ratios {
		scribbleRatios(l)
		if !slices.EqualFunc(r.ratios[i+1:], want.ratios[i+1:], func(a, b []api.Ratio) bool { return slices.Equal(a, b) }) {
			t.Error(name, "answers fractions that share memory")
		}
	}
}

func TestNilAndEmptyAreAlike(t *testing.T) {
	for _, nothing := range [][]int{nil, {}} {
		for _, values := range [][]api.Ratio{nil, {}} {
			f := api.Fit{Pixels: nothing, Values: values}
			x, e := sparse.Picture(two(), f)
			if !sparse.IsFit(two(), []int{0, 0}, f) || sparse.IsFit(two(), []int{0, 1}, f) || !slices.Equal(x, wholes(0, 0, 0)) || e != api.OK {
				t.Error("an empty fit", f, x, e)
			}
		}
		is, e := sparse.Carries(two(), []int{0, 0}, nothing)
		rest, f := sparse.Rest(two(), []int{3, 2}, nothing)
		_, g := sparse.Size(two(), nothing)
		if !is || e != api.OK || !slices.Equal(rest, wholes(3, 2)) || f != api.OK || g != api.ErrSize {
			t.Error("an empty list", is, e, rest, f, g)
		}
	}
}
