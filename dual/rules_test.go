package dual_test

import (
	"slices"
	"testing"

	"lightsieve/api"
	"lightsieve/dual"
)

const mark = 12321

// given is what a call is handed, with spare capacity behind each slice. The reading y is that of the picture x.
type given struct {
	m           api.Mask
	x, y, z     []int
	a, b, proof []api.Ratio
	k           int
}

func spare(l []int) []int {
	return append(slices.Clone(l), mark, mark, mark, mark)[:len(l)]
}

func spareRatios(l []api.Ratio) []api.Ratio {
	return append(slices.Clone(l), ratio(mark, 2), ratio(mark, 2), ratio(mark, 2))[:len(l)]
}

func newGiven(m api.Mask, x, y []int, k int) given {
	g := given{x: spare(x), y: spare(y), z: spare(filled(len(y), 1)), k: k}
	g.m = make(api.Mask, 0, len(m)+2)
	for _, row := range m {
		g.m = append(g.m, spare(row))
	}
	g.m = append(g.m, []int{mark}, []int{mark})[:len(m)]
	if z, e := dual.Shade(m, y); e == api.OK {
		g.z = spare(z)
	}
	l, _ := dual.Least(m, y)
	g.a, g.proof = spareRatios(l.Picture), spareRatios(l.Proof)
	g.b = spareRatios(g.a)
	if light, e := dual.Light(m, y); e == api.OK {
		g.b = spareRatios(light)
	}
	return g
}

// numbers and ratios are all that the slices hold, with what lies behind them.
func (g given) numbers() [][]int {
	var all [][]int
	for _, l := range append(slices.Clone(g.m[:cap(g.m)]), g.x, g.y, g.z) {
		all = append(all, l[:cap(l)])
	}
	return all
}

func (g given) ratios() [][]api.Ratio {
	var all [][]api.Ratio
	for _, l := range [][]api.Ratio{g.a, g.b, g.proof} {
		all = append(all, l[:cap(l)])
	}
	return all
}

func copyOf[T any](lists [][]T) [][]T {
	var all [][]T
	for _, l := range lists {
		all = append(all, slices.Clone(l))
	}
	return all
}

// result is what a call answers: the lists themselves.
type result struct {
	numbers [][]int
	ratios  [][]api.Ratio
	e       api.Errno
}

func (r result) copy() result {
	return result{copyOf(r.numbers), copyOf(r.ratios), r.e}
}

func (r result) equal(s result) bool {
	return r.e == s.e && equalLists(r.numbers, s.numbers) && equalPictures(r.ratios, s.ratios)
}

func scribble[T any](l []T, value T) {
	for i := range l[:cap(l)] {
		l[:cap(l)][i] = value
	}
}

func scribbleAll(numbers [][]int, ratios [][]api.Ratio) {
	for _, l := range numbers {
		scribble(l, -mark)
	}
	for _, l := range ratios {
		scribble(l, ratio(-mark, 7))
	}
}

func ofTruth(is bool, e api.Errno) result {
	if is {
		return result{numbers: [][]int{{1}}, e: e}
	}
	return result{numbers: [][]int{{0}}, e: e}
}

func calls() map[string]func(g given) result {
	list := func(l []int, e api.Errno) result { return result{numbers: [][]int{l}, e: e} }
	picture := func(l []api.Ratio, e api.Errno) result { return result{ratios: [][]api.Ratio{l}, e: e} }
	fraction := func(r api.Ratio, e api.Errno) result { return picture([]api.Ratio{r}, e) }
	return map[string]func(g given) result{
		"Norm":  func(g given) result { return fraction(dual.Norm(g.a)) },
		"Value": func(g given) result { return fraction(dual.Value(g.m, g.y)) },
		"Least": func(g given) result {
			l, e := dual.Least(g.m, g.y)
			return result{ratios: [][]api.Ratio{l.Picture, l.Proof}, e: e}
		},
		"Proves": func(g given) result {
			return ofTruth(dual.Proves(g.m, g.y, api.Least{Picture: g.a, Proof: g.proof}), 0)
		},
		"IsLeast": func(g given) result { return ofTruth(dual.IsLeast(g.m, g.y, g.a)) },
		"Corners": func(g given) result {
			l, e := dual.Corners(g.m, g.y)
			return result{ratios: l, e: e}
		},
		"Unique": func(g given) result { return ofTruth(dual.Unique(g.m, g.y)) },
		"Range": func(g given) result {
			lo, hi, e := dual.Range(g.m, g.y, g.k)
			return picture([]api.Ratio{lo, hi}, e)
		},
		"Fixed":     func(g given) result { return list(dual.Fixed(g.m, g.y)) },
		"Finds":     func(g given) result { return ofTruth(dual.Finds(g.m, g.x)) },
		"Missed":    func(g given) result { return list(dual.Missed(g.m, g.k+1)) },
		"Light":     func(g given) result { return picture(dual.Light(g.m, g.y)) },
		"IsLight":   func(g given) result { return ofTruth(dual.IsLight(g.m, g.y, g.b), 0) },
		"Shade":     func(g given) result { return list(dual.Shade(g.m, g.y)) },
		"Shades":    func(g given) result { return ofTruth(dual.Shades(g.m, g.y, g.z), 0) },
		"Brightest": func(g given) result { return fraction(dual.Brightest(g.m, g.y, g.k)) },
		"Mixed":     func(g given) result { return picture(dual.Mixed(g.a, g.b)) },
	}
}

// R4 and R7: a call leaves its arguments alone, what it answers is its own, list by list, and a second call answers the same.
func TestArgumentsAreLeftAlone(t *testing.T) {
	steeper := besides(steep(), full(6, 4, 1))
	for name, call := range calls() {
		for _, g := range []given{
			newGiven(api.Mask{{1}}, []int{5}, []int{5}, 0), newGiven(two(), []int{0, 1, 0}, []int{1, 1}, 1), newGiven(two(), []int{1, 0, -1}, []int{1, -1}, 0), newGiven(two(), []int{0, 0, 0}, []int{0, 0}, 2), newGiven(twice(), []int{1, 1}, []int{2, 2}, 1), newGiven(twice(), []int{1, 0}, []int{1, 2}, 0), newGiven(line(), []int{3, 0, 0, 0}, []int{3}, 1), newGiven(half(), []int{1, 2}, []int{1, 0}, 1),
			newGiven(full(6, 10, 0), filled(10, 0), filled(6, 0), 9), newGiven(full(6, 10, 1), filled(10, 1), filled(6, 10), 5), newGiven(steeper, filled(10, 2), readOf(steeper, filled(10, 2)), 3), newGiven(steeper, filled(10, -1), upTo(6), 7), newGiven(api.Mask{{1, 1, 1, 0}, {0, 1, -1, 1}}, []int{2, 0, 0, 0}, []int{2, 0}, 2), newGiven(api.Mask{{2, 1}}, []int{1, 1}, []int{1}, 3),
		} {
			checkCall(t, name, call, g)
		}
	}
}

func checkCall(t *testing.T, name string, call func(g given) result, g given) {
	t.Helper()
	numbers, ratios := copyOf(g.numbers()), copyOf(g.ratios())
	first := call(g)
	want := first.copy()
	second := call(g)
	if !second.equal(want) {
		t.Error(name, "answers", want, "and then", second)
	}
	scribbleAll(second.numbers, second.ratios)
	if !equalLists(g.numbers(), numbers) || !equalPictures(g.ratios(), ratios) {
		t.Error(name, "changes its arguments, or answers their memory", g)
	}
	scribbleAll(g.numbers(), g.ratios())
	if !first.equal(want) {
		t.Error(name, "keeps its arguments, or answers the same memory twice", g)
	}
	for i, l := range first.ratios {
		scribble(l, ratio(-mark, 7))
		if !equalPictures(first.ratios[i+1:], want.ratios[i+1:]) {
			t.Error(name, "answers fractions that share memory")
		}
	}
}

func TestNilAndEmptyAreAlike(t *testing.T) {
	for _, nothing := range [][]api.Ratio{nil, {}} {
		for _, none := range [][]api.Ratio{nil, {}} {
			x, e := dual.Mixed(nothing, none)
			if len(x) != 0 || e != api.OK {
				t.Error("Mixed of nothing", x, e)
			}
		}
		_, e := dual.Norm(nothing)
		_, f := dual.IsLeast(two(), []int{0, 0}, nothing)
		if e != api.ErrSize || f != api.ErrSize || dual.IsLight(two(), []int{0, 0}, nothing) || dual.Proves(two(), []int{0, 0}, api.Least{Picture: nothing, Proof: nothing}) {
			t.Error("no fractions", e, f)
		}
	}
	for _, nothing := range [][]int{nil, {}} {
		_, e := dual.Value(two(), nothing)
		_, f := dual.Finds(two(), nothing)
		if e != api.ErrSize || f != api.ErrSize || dual.Shades(two(), []int{1, -1}, nothing) || dual.Shades(two(), nothing, []int{0, 1}) {
			t.Error("no numbers", e, f)
		}
	}
}
