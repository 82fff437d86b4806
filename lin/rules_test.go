package lin_test

import (
	"slices"
	"testing"

	"lightsieve/api"
	"lightsieve/lin"
)

const mark = 12321

// given is what a call is handed, with spare capacity behind each slice.
type given struct {
	m               api.Mask
	pixels, y, z, h []int
	x               []api.Ratio
}

func spare(l []int) []int {
	return append(slices.Clone(l), mark, mark, mark, mark)[:len(l)]
}

func newGiven(m api.Mask, pixels, y []int) given {
	g := given{pixels: spare(pixels), y: spare(y), z: spare(filled(len(y), 1)), h: spare(filled(len(m[0]), 1))}
	g.m = make(api.Mask, 0, len(m)+2)
	for _, row := range m {
		g.m = append(g.m, spare(row))
	}
	g.m = append(g.m, []int{mark}, []int{mark})[:len(m)]
	g.x = slices.Repeat([]api.Ratio{{N: 1, D: 2}}, len(m[0])+2)[:len(m[0])]
	return g
}

// whole is all that the slices hold, with what lies behind them.
func (g given) whole() [][]int {
	all := [][]int{}
	for _, l := range append(slices.Clone(g.m[:cap(g.m)]), g.pixels, g.y, g.z, g.h) {
		all = append(all, l[:cap(l)])
	}
	return all
}

func copyOf(lists [][]int) [][]int {
	var all [][]int
	for _, l := range lists {
		all = append(all, slices.Clone(l))
	}
	return all
}

func equalLists(a, b [][]int) bool {
	return slices.EqualFunc(a, b, func(x, y []int) bool { return slices.Equal(x, y) })
}

func scribble(lists [][]int) {
	for _, l := range lists {
		for i := range l[:cap(l)] {
			l[:cap(l)][i] = -mark
		}
	}
}

// calls answer all of their results as lists. Fractions are copied, since no argument of these calls has such memory.
func calls() map[string]func(g given) [][]int {
	one := func(l []int, e api.Errno) [][]int { return [][]int{l, {int(e)}} }
	rows := func(lists [][]int, e api.Errno) [][]int { return append(slices.Clone(lists), []int{int(e)}) }
	number := func(n int, e api.Errno) [][]int { return [][]int{{n, int(e)}} }
	ratios := func(l []api.Ratio, e api.Errno) [][]int {
		all := [][]int{{int(e)}}
		for _, r := range l {
			all = append(all, []int{r.N, r.D})
		}
		clear(l[:cap(l)])
		return all
	}
	truth := func(is bool, e api.Errno) [][]int {
		if is {
			return [][]int{{1, int(e)}}
		}
		return [][]int{{0, int(e)}}
	}
	return map[string]func(g given) [][]int{
		"Reading":     func(g given) [][]int { return truth(lin.Reading(g.m, g.y), 0) },
		"Makes":       func(g given) [][]int { return truth(lin.Makes(g.m, g.x, g.y), 0) },
		"Rank":        func(g given) [][]int { return number(lin.Rank(g.m)) },
		"Independent": func(g given) [][]int { return truth(lin.Independent(g.m, g.pixels)) },
		"Solve":       func(g given) [][]int { return ratios(lin.Solve(g.m, g.pixels, g.y)) },
		"Kernel":      func(g given) [][]int { return rows(lin.Kernel(g.m)) },
		"IsKernel":    func(g given) [][]int { return truth(lin.IsKernel(g.m, g.h), 0) },
		"Primitive":   func(g given) [][]int { return truth(lin.Primitive(g.h), 0) },
		"Circuits":    func(g given) [][]int { return rows(lin.Circuits(g.m)) },
		"Spark":       func(g given) [][]int { return number(lin.Spark(g.m)) },
		"Circuit":     func(g given) [][]int { return one(lin.Circuit(g.m)) },
		"Known":       func(g given) [][]int { return one(lin.Known(g.m)) },
		"Weight":      func(g given) [][]int { return one(lin.Weight(g.m, 0)) },
		"Weighs":      func(g given) [][]int { return truth(lin.Weighs(g.m, 0, g.z), 0) },
		"Value": func(g given) [][]int {
			r, e := lin.Value(g.m, g.y, 0)
			return [][]int{{r.N, r.D, int(e)}}
		},
		"Possible": func(g given) [][]int { return truth(lin.Possible(g.m, g.y)) },
		"Conflict": func(g given) [][]int { return one(lin.Conflict(g.m, g.y)) },
		"Denies":   func(g given) [][]int { return truth(lin.Denies(g.m, g.y, g.z), 0) },
		"Any":      func(g given) [][]int { return ratios(lin.Any(g.m, g.y)) },
	}
}

// R4 and R7: a call leaves its arguments alone, what it answers is its own, list by list, and a second call answers the same.
func TestArgumentsAreLeftAlone(t *testing.T) {
	for name, call := range calls() {
		for _, g := range []given{
			newGiven(api.Mask{{1}}, []int{0}, []int{5}), newGiven(two(), []int{0, 2}, []int{7, 11}), newGiven(three(), []int{0, 1, 2}, []int{7, 11, 5}), newGiven(half(), []int{0}, []int{3, 3}),
			newGiven(api.Mask{{1, 1, 0, -1}, {-1, -1, 0, 1}}, []int{1}, []int{1, 2}), newGiven(full(6, 10, 1), upTo(10), filled(6, 3)), newGiven(full(2, 3, 0), nil, []int{0, 0}), newGiven(api.Mask{{2, 1}}, []int{1, 0}, []int{1, 1}),
			newGiven(besides(steep(), full(6, 4, 1)), upTo(6), []int{1, 2, 3, 4, 5, 6}),
		} {
			kept, fractions := copyOf(g.whole()), slices.Clone(g.x[:cap(g.x)])
			first := call(g)
			want := copyOf(first)
			if second := call(g); !equalLists(second, want) {
				t.Error(name, "answers", want, "and then", second)
			} else {
				scribble(second)
			}
			if !equalLists(g.whole(), kept) || !slices.Equal(g.x[:cap(g.x)], fractions) {
				t.Error(name, "changes its arguments, or answers their memory", g.m)
			}
			scribble(g.whole())
			if !equalLists(first, want) {
				t.Error(name, "keeps its arguments, or answers the same memory twice", g.m)
			}
			checkApart(t, name, first)
		}
	}
}

// checkApart writes over one list after another, with its spare capacity, and looks at those behind it.
func checkApart(t *testing.T, name string, lists [][]int) {
	t.Helper()
	kept := copyOf(lists)
	for i := range lists {
		scribble(lists[i : i+1])
		if !equalLists(lists[i+1:], kept[i+1:]) {
			t.Error(name, "answers lists that share memory")
		}
	}
}

func TestNilAndEmptyAreAlike(t *testing.T) {
	for _, none := range [][]int{nil, {}} {
		is, e := lin.Independent(two(), none)
		values, f := lin.Solve(two(), none, []int{0, 0})
		_, g := lin.Possible(two(), none)
		if !is || e != api.OK || len(values) != 0 || f != api.OK || g != api.ErrSize || lin.Primitive(none) || lin.IsKernel(two(), none) {
			t.Error("an empty list", is, e, values, f, g)
		}
	}
}
