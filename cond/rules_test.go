package cond_test

import (
	"slices"
	"testing"

	"lightsieve/api"
	"lightsieve/cond"
)

const mark = 12321

// given is what a call is handed, with spare capacity behind each slice.
type given struct {
	m            api.Mask
	rows         [][]int
	h, x, pixels []int
	k            int
}

func spare(l []int) []int {
	return append(slices.Clone(l), mark, mark, mark, mark)[:len(l)]
}

func spareRows(rows [][]int) [][]int {
	all := make([][]int, 0, len(rows)+2)
	for _, row := range rows {
		all = append(all, spare(row))
	}
	return append(all, []int{mark}, []int{mark})[:len(rows)]
}

func newGiven(m api.Mask, x, pixels []int, k int) given {
	rows := [][]int{filled(len(x), 0), filled(len(x), 1), append(filled(len(x)-1, 0), 1)}
	return given{m: spareRows(m), rows: spareRows(rows), h: spare(x), x: spare(x), pixels: spare(pixels), k: k}
}

// memory is all that the slices hold, with what lies behind them.
func (g given) memory() [][]int {
	var all [][]int
	for _, l := range slices.Concat(g.m[:cap(g.m)], g.rows[:cap(g.rows)], [][]int{g.h, g.x, g.pixels}) {
		all = append(all, l[:cap(l)])
	}
	return all
}

func copyOf(lists [][]int) [][]int {
	var all [][]int
	for _, l := range lists {
		all = append(all, slices.Clone(l))
	}
	return all
}

// result is what a call answers: the lists themselves.
type result struct {
	lists [][]int
	text  string
	e     api.Errno
}

func (r result) copy() result {
	return result{copyOf(r.lists), r.text, r.e}
}

func (r result) equal(s result) bool {
	return r.e == s.e && r.text == s.text && equalLists(r.lists, s.lists)
}

func scribble(lists ...[]int) {
	for _, l := range lists {
		for i := range l[:cap(l)] {
			l[:cap(l)][i] = -mark
		}
	}
}

func ofTruth(is bool, e api.Errno) result {
	if is {
		return result{lists: [][]int{{1}}, e: e}
	}
	return result{lists: [][]int{{0}}, e: e}
}

func calls() map[string]func(g given) result {
	list := func(l []int, e api.Errno) result { return result{lists: [][]int{l}, e: e} }
	number := func(n int, e api.Errno) result { return list([]int{n}, e) }
	fraction := func(r api.Ratio, e api.Errno) result { return list([]int{r.N, r.D}, e) }
	return map[string]func(g given) result{
		"Share":    func(g given) result { return fraction(cond.Share(g.h, g.pixels)) },
		"Of":       func(g given) result { return fraction(cond.Of(g.m, g.pixels)) },
		"Greatest": func(g given) result { return fraction(cond.Greatest(g.m, g.k)) },
		"Where": func(g given) result {
			h, pixels, e := cond.Where(g.m, g.k)
			return result{lists: [][]int{h, pixels}, e: e}
		},
		"Safe":        func(g given) result { return ofTruth(cond.Safe(g.m, g.pixels)) },
		"Order":       func(g given) result { return number(cond.Order(g.m)) },
		"SafePicture": func(g given) result { return ofTruth(cond.SafePicture(g.m, g.x)) },
		"Against":     func(g given) result { return list(cond.Against(g.m, g.x)) },
		"Bad":         func(g given) result { return list(cond.Bad(g.m, g.k)) },
		"IsBad":       func(g given) result { return ofTruth(cond.IsBad(g.m, g.k, g.x), 0) },
		"Unsafe": func(g given) result {
			l, e := cond.Unsafe(g.m, g.k)
			return result{lists: l, e: e}
		},
		"Better": func(g given) result { return number(cond.Better(g.m, g.rows)) },
		"Blind":  func(g given) result { return list(cond.Blind(g.m)) },
		"Rows":   func(g given) result { return list(cond.Rows(g.m)) },
		"Report": func(g given) result { return result{text: cond.Report(g.m)} },
	}
}

// R4 and R7: a call leaves its arguments alone, what it answers is its own, list by list, and a second call answers the same.
func TestArgumentsAreLeftAlone(t *testing.T) {
	for name, call := range calls() {
		for _, g := range []given{
			newGiven(two(), []int{1, 0, 1}, []int{0, 2}, 2), newGiven(two(), []int{0, 3, 0}, []int{1}, 1), newGiven(two(), []int{-1, 1, 5}, nil, 3), newGiven(two(), []int{1, 1, 1}, []int{2, 1}, 4), newGiven(twice(), []int{1, -1}, []int{0}, 1), newGiven(half(), []int{1, 2}, []int{0, 1}, 2), newGiven(line(), []int{3, 0, -1, 0}, []int{1, 2, 3}, 2), newGiven(api.Mask{{0}}, []int{5}, []int{0}, 1),
			newGiven(full(6, 10, 0), filled(10, 1), []int{3, 9}, 2), newGiven(full(5, 10, 1), filled(10, -1), upTo(10), 4), newGiven(besides(steep(), full(6, 4, 1)), filled(10, 2), []int{0, 3, 6}, 7), newGiven(far(), upTo(8), []int{1, 2, 3}, 3), newGiven(ring(5), []int{1, -1, 1, -1, 1, -1}, []int{5}, 5), newGiven(api.Mask{{2, 1}}, []int{1, 1}, []int{0}, 1),
		} {
			checkCall(t, name, call, g)
		}
	}
}

func checkCall(t *testing.T, name string, call func(g given) result, g given) {
	t.Helper()
	memory := copyOf(g.memory())
	first := call(g)
	want := first.copy()
	second := call(g)
	if !second.equal(want) {
		t.Error(name, "answers", want, "and then", second)
	}
	scribble(second.lists...)
	if !equalLists(g.memory(), memory) {
		t.Error(name, "changes its arguments, or answers their memory", g)
	}
	scribble(g.memory()...)
	if !first.equal(want) {
		t.Error(name, "keeps its arguments, or answers the same memory twice", g)
	}
	for i, l := range first.lists {
		scribble(l)
		if !equalLists(first.lists[i+1:], want.lists[i+1:]) {
			t.Error(name, "answers lists that share memory")
		}
	}
}

func TestNilAndEmptyAreAlike(t *testing.T) {
	for _, nothing := range [][]int{nil, {}} {
		r, e := cond.Share([]int{1, -1}, nothing)
		of, f := cond.Of(two(), nothing)
		safe, g := cond.Safe(two(), nothing)
		if r != ratio(0, 1) || of != ratio(0, 1) || !safe || e != api.OK || f != api.OK || g != api.OK {
			t.Error("no pixels", r, of, safe, e, f, g)
		}
		_, e = cond.Share(nothing, nothing)
		_, f = cond.SafePicture(two(), nothing)
		_, g = cond.Better(two(), [][]int{nothing})
		if e != api.ErrInvalid || f != api.ErrSize || g != api.ErrInvalid || cond.IsBad(two(), 1, nothing) {
			t.Error("no numbers", e, f, g)
		}
	}
	for _, none := range [][][]int{nil, {}} {
		if _, e := cond.Better(two(), none); e != api.ErrRange {
			t.Error("no rows", e)
		}
	}
}
