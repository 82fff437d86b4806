package mask_test

import (
	"slices"
	"testing"

	"lightsieve/api"
	"lightsieve/mask"
)

const mark = 12321

// given is what a call is handed, with spare capacity behind each slice.
type given struct {
	a, b   api.Mask
	pixels []int
	shown  []int
}

func spare(l []int) []int {
	return append(slices.Clone(l), mark, mark, mark, mark)[:len(l)]
}

func spareMask(m api.Mask) api.Mask {
	rows := make(api.Mask, 0, len(m)+4)
	for _, row := range m {
		rows = append(rows, spare(row))
	}
	for range 4 {
		rows = append(rows, []int{mark})
	}
	return rows[:len(m)]
}

func newGiven(m api.Mask) given {
	pixels := make([]int, len(m[0]))
	for j := range pixels {
		pixels[j] = j
	}
	return given{spareMask(m), spareMask(m), spare(pixels), spare(filled(len(m[0]), 5))}
}

// whole is all that the slices hold, with what lies behind them.
func (g given) whole() [][]int {
	all := [][]int{g.pixels[:cap(g.pixels)], g.shown[:cap(g.shown)]}
	for _, m := range []api.Mask{g.a, g.b} {
		for _, row := range m[:cap(m)] {
			all = append(all, row[:cap(row)])
		}
	}
	return all
}

func copyOf(lists [][]int) [][]int {
	var all [][]int
	for _, l := range lists {
		all = append(all, slices.Clone(l))
	}
	return all
}

// calls answer all of their results as lists.
func calls() map[string]func(g given) [][]int {
	one := func(l []int, e api.Errno) [][]int { return [][]int{l, {int(e)}} }
	// The list of the rows is cleared itself, so that one which shares an argument's memory is seen there.
	rows := func(m api.Mask, e api.Errno) [][]int {
		all := append(slices.Clone(m), []int{int(e)})
		clear(m[:cap(m)])
		return all
	}
	ratio := func(r api.Ratio, e api.Errno) [][]int { return [][]int{{r.N, r.D, int(e)}} }
	return map[string]func(g given) [][]int{
		"Read":      func(g given) [][]int { return one(mask.Read(g.a, g.shown)) },
		"Back":      func(g given) [][]int { return one(mask.Back(g.a, g.shown[:len(g.a)])) },
		"Column":    func(g given) [][]int { return one(mask.Column(g.a, 0)) },
		"Likeness":  func(g given) [][]int { return ratio(mask.Likeness(g.a, 0, len(g.a[0])-1)) },
		"Coherence": func(g given) [][]int { return ratio(mask.Coherence(g.a)) },
		"Alike": func(g given) [][]int {
			pairs, e := mask.Alike(g.a)
			all := [][]int{{int(e)}}
			for _, p := range pairs {
				all = append(all, []int{p[0], p[1]})
			}
			return all
		},
		"Chosen":      func(g given) [][]int { return rows(mask.Chosen(g.a, g.pixels)) },
		"Chosen one":  func(g given) [][]int { return rows(mask.Chosen(g.a, g.pixels[:1])) },
		"Stacked":     func(g given) [][]int { return rows(mask.Stacked(g.a, g.b)) },
		"Stacked own": func(g given) [][]int { return rows(mask.Stacked(g.a, g.a)) },
		"Without":     func(g given) [][]int { return rows(mask.Without(g.a, 0)) },
		"Permuted":    func(g given) [][]int { return rows(mask.Permuted(g.a, g.pixels)) },
		"Signed":      func(g given) [][]int { return rows(mask.Signed(g.a, g.pixels)) },
		"Signed none": func(g given) [][]int { return rows(mask.Signed(g.a, nil)) },
		"Rolled":      func(g given) [][]int { return rows(mask.Rolled(g.a[0], 6)) },
		"Walsh":       func(g given) [][]int { return rows(mask.Walsh(8, g.pixels)) },
		"Seeded":      func(given) [][]int { return rows(mask.Seeded(5, 3, 4)) },
		"Parse": func(g given) [][]int {
			m, line, e := mask.Parse(mask.Format(g.a))
			return append(rows(m, e), []int{line})
		},
		"Valid and Shown": func(g given) [][]int {
			if mask.Valid(g.a) && mask.Shown(g.a, g.shown) {
				return [][]int{{1}}
			}
			return nil
		},
	}
}

// R4 and R7: a call leaves its arguments alone, what it answers is its own, row by row, and a second call answers the same.
func TestArgumentsAreLeftAlone(t *testing.T) {
	samples := []api.Mask{{{1}}, {{1, -1, 0}}, {{1, 1, 0}, {0, 1, 1}}, {{1, 1, 1}, {-1, -1, 1}, {1, 1, -1}}, {{2, 1}}}
	for name, call := range calls() {
		for _, m := range samples {
			g := newGiven(m)
			kept := copyOf(g.whole())
			first := call(g)
			want := copyOf(first)
			if second := call(g); !equalLists(second, want) {
				t.Error(name, "answers", want, "and then", second)
			} else {
				scribble(second)
			}
			if !equalLists(g.whole(), kept) {
				t.Error(name, "changes its arguments, or answers their memory", m)
			}
			scribble(g.whole())
			if !equalLists(first, want) {
				t.Error(name, "keeps its arguments, or answers the same memory twice", m)
			}
			checkApart(t, name, first)
		}
	}
}

func equalLists(a, b [][]int) bool {
	return slices.EqualFunc(a, b, func(x, y []int) bool { return slices.Equal(x, y) })
}

func scribble(lists [][]int) {
	for _, l := range lists {
		for i := range l[:cap(l)] {
			l[:cap(l)][i] = -mark
		}
	}
}

// checkApart writes over one list after another, with its spare capacity, and looks at those behind it.
func checkApart(t *testing.T, name string, lists [][]int) {
	t.Helper()
	kept := copyOf(lists)
	for i := range lists {
		scribble(lists[i : i+1])
		if !equalLists(lists[i+1:], kept[i+1:]) {
			t.Error(name, "answers lists that share memory")
		}
	}
}

func TestNilAndEmptyAreAlike(t *testing.T) {
	m := api.Mask{{1, 0}}
	for _, none := range [][]int{nil, {}} {
		_, read := mask.Read(m, none)
		_, back := mask.Back(m, none)
		_, permuted := mask.Permuted(m, none)
		if read != api.ErrSize || back != api.ErrSize || permuted != api.ErrSize {
			t.Error("an empty list", read, back, permuted)
		}
	}
}
