package pic_test

import (
	"slices"
	"testing"

	"lightsieve/api"
	"lightsieve/pic"
)

const mark = 12321

// spare returns the list with spare capacity behind it, and the list with this capacity.
func spare(l []int) (list, whole []int) {
	whole = append(slices.Clone(l), mark, mark, mark, mark)
	return whole[:len(l):len(whole)], whole
}

// checkOwn asks a call for R4 and R7: it leaves its lists and their spare capacity as they are,
// its results share no memory with them, nor with the results of other calls, and a second call answers the same.
func checkOwn(t *testing.T, name string, call func(lists ...[]int) []int, given ...[]int) {
	t.Helper()
	lists, wholes, kept := make([][]int, len(given)), make([][]int, len(given)), make([][]int, len(given))
	for i, l := range given {
		lists[i], wholes[i] = spare(l)
		kept[i] = slices.Clone(wholes[i])
	}
	unchanged := func(when string) {
		t.Helper()
		for i := range wholes {
			if !slices.Equal(wholes[i], kept[i]) {
				t.Error(name, "changes its argument", i, when)
			}
		}
	}
	first := call(lists...)
	unchanged("in the call")
	want := slices.Clone(first)
	second := call(lists...)
	if !slices.Equal(second, want) {
		t.Error(name, "answers", want, "and then", second)
	}
	scribble(second)
	unchanged("by its result")
	for _, whole := range wholes {
		scribble(whole)
	}
	if !slices.Equal(first, want) {
		t.Error(name, "has a result that shares memory")
	}
}

// scribble writes over a list and what lies behind it.
func scribble(l []int) {
	for i := range l[:cap(l)] {
		l[:cap(l)][i] = -mark
	}
}

func TestListsAreLeftAlone(t *testing.T) {
	transforms := map[string]func([]int) ([]int, api.Errno){
		"Support": pic.Support, "Walsh": pic.Walsh, "Unwalsh": pic.Unwalsh, "Lift": pic.Lift, "Unlift": pic.Unlift,
		"Largest 0":   func(l []int) ([]int, api.Errno) { return pic.Largest(l, 0) },
		"Largest 1":   func(l []int) ([]int, api.Errno) { return pic.Largest(l, 1) },
		"Largest all": func(l []int) ([]int, api.Errno) { return pic.Largest(l, len(l)) },
		"Size": func(l []int) ([]int, api.Errno) {
			n, e := pic.Size(l)
			return []int{n}, e
		},
	}
	for name, transform := range transforms {
		for _, l := range [][]int{{8}, {8, -8}, {12, -4, 4, 8}, {0, -3, 5, 1}, {16, 0, -16, 16, 0, 32, 8, -8}, {top + 1}, {1, 2, 3}} {
			checkOwn(t, name, func(lists ...[]int) []int {
				r, _ := transform(lists[0])
				return r
			}, l)
		}
	}
}

func TestPicturesAreLeftAlone(t *testing.T) {
	motions := map[string]func(p api.Picture) api.Picture{
		"Turned 0":  func(p api.Picture) api.Picture { q, _ := pic.Turned(p, 0); return q },
		"Turned 1":  func(p api.Picture) api.Picture { q, _ := pic.Turned(p, 1); return q },
		"Turned 2":  func(p api.Picture) api.Picture { q, _ := pic.Turned(p, 2); return q },
		"Turned -4": func(p api.Picture) api.Picture { q, _ := pic.Turned(p, -4); return q },
		"Mirrored":  func(p api.Picture) api.Picture { q, _ := pic.Mirrored(p); return q },
		"Halved":    func(p api.Picture) api.Picture { q, _ := pic.Halved(p); return q },
		"Parse":     func(p api.Picture) api.Picture { q, _, _ := pic.Parse(pic.Format(p)); return q },
		"Steps":     func(p api.Picture) api.Picture { n, _ := pic.Steps(p); return picture(0, 0, n) },
		"At":        func(p api.Picture) api.Picture { n, _ := pic.At(p, 0, 0); return picture(0, 0, n) },
	}
	for name, motion := range motions {
		for _, p := range []api.Picture{picture(1, 1, 5), picture(1, 2, 5, 6), picture(2, 1, 5, 6), picture(2, 2, 1, 2, 3, 4), picture(4, 2, 1, 2, 3, 4, 5, 6, 7, 8)} {
			checkOwn(t, name, func(lists ...[]int) []int {
				return motion(picture(p.Wide, p.High, lists[0]...)).Pix
			}, p.Pix)
		}
	}
}

func TestPairsOfPicturesAreLeftAlone(t *testing.T) {
	added := func(lists ...[]int) []int {
		p, _ := pic.Added(picture(2, 2, lists[0]...), picture(2, 2, lists[1]...))
		return p.Pix
	}
	differ := func(lists ...[]int) []int {
		l, _ := pic.Differ(picture(2, 2, lists[0]...), picture(2, 2, lists[1]...))
		return l
	}
	for _, b := range [][]int{{0, 0, 0, 0}, {1, 2, 3, 4}, {4, -4, top, 1}} {
		checkOwn(t, "Added", added, []int{1, 2, 3, 4}, b)
		checkOwn(t, "Differ", differ, []int{1, 2, 3, 4}, b)
	}
	p := picture(2, 1, 3, 4)
	if q, e := pic.Added(p, p); e != api.OK || !same(q, picture(2, 1, 6, 8)) || !same(p, picture(2, 1, 3, 4)) {
		t.Error("Added to itself", p, q, e)
	}
}
