package fault_test

import (
	"slices"
	"testing"

	"lightsieve/api"
	"lightsieve/fault"
)

const mark = 12321

// question is what a call is handed.
type question struct {
	m     api.Mask
	f, g  api.Fault
	t     []api.Test
	shown [][]int
	x     []int
}

// result is what a call answers: the lists and the tests themselves.
type result struct {
	lists   [][]int
	tests   []api.Test
	faults  []api.Fault
	numbers []int
	truths  []bool
	text    string
	e       api.Errno
}

func calls() map[string]func(q question) result {
	list := func(l []int, e api.Errno) result { return result{lists: [][]int{l}, e: e} }
	lists := func(l [][]int, e api.Errno) result { return result{lists: l, e: e} }
	truth := func(is bool, e api.Errno) result { return result{truths: []bool{is}, e: e} }
	faults := func(f []api.Fault, e api.Errno) result { return result{faults: f, e: e} }
	return map[string]func(q question) result{
		"Valid":      func(q question) result { return truth(fault.Valid(q.m, q.f), api.OK) },
		"ValidTests": func(q question) result { return truth(fault.ValidTests(q.m, q.t), api.OK) },
		"All":        func(q question) result { return faults(fault.All(q.m)) },
		"Faulty": func(q question) result {
			m, e := fault.Faulty(q.m, q.f)
			return lists(m, e)
		},
		"Reads":    func(q question) result { return list(fault.Reads(q.m, q.f, q.x)) },
		"One":      func(q question) result { return truth(fault.One(q.m, q.f, q.g)) },
		"Explains": func(q question) result { return truth(fault.Explains(q.m, q.f, q.t)) },
		"Which":    func(q question) result { return faults(fault.Which(q.m, q.t)) },
		"First": func(q question) result {
			f, e := fault.First(q.m, q.t)
			return result{numbers: []int{f.Kind, f.Row, f.Pixel}, e: e}
		},
		"Part":    func(q question) result { return truth(fault.Part(q.m, q.f, q.g, q.shown)) },
		"Classes": func(q question) result { return list(fault.Classes(q.m, q.shown)) },
		"Fewest":  func(q question) result { return list(fault.Fewest(q.m, q.shown)) },
		"Enough":  func(q question) result { return truth(fault.Enough(q.m, q.shown)) },
		"Units":   func(q question) result { return lists(fault.Units(q.m)) },
		"Best": func(q question) result {
			i, e := fault.Best(q.m, q.t, q.shown)
			return result{numbers: []int{i}, e: e}
		},
		"Play": func(q question) result {
			t, e := fault.Play(q.m, q.f, q.shown)
			return result{tests: t, e: e}
		},
		"Format": func(q question) result { return result{text: fault.Format(q.t)} },
		"Parse": func(q question) result {
			t, line, e := fault.Parse(fault.Format(q.t))
			return result{tests: t, numbers: []int{line}, e: e}
		},
	}
}

// memory is all that the slices of a result hold, with what lies behind them.
func (r result) memory() [][]int {
	var all [][]int
	for _, l := range r.lists {
		all = append(all, l[:cap(l)])
	}
	for _, t := range r.tests {
		all = append(all, t.Shown[:cap(t.Shown)], t.Read[:cap(t.Read)])
	}
	return all
}

func copyOf(lists [][]int) [][]int {
	var all [][]int
	for _, l := range lists {
		all = append(all, slices.Clone(l))
	}
	return all
}

func copyOfTests(t []api.Test) []api.Test {
	var all []api.Test
	for _, one := range t {
		all = append(all, api.Test{Shown: slices.Clone(one.Shown), Read: slices.Clone(one.Read)})
	}
	return all
}

func (r result) copy() result {
	return result{copyOf(r.lists), copyOfTests(r.tests), slices.Clone(r.faults), slices.Clone(r.numbers), slices.Clone(r.truths), r.text, r.e}
}

func (r result) equal(s result) bool {
	return r.e == s.e && r.text == s.text && slices.Equal(r.numbers, s.numbers) && slices.Equal(r.truths, s.truths) && slices.Equal(r.faults, s.faults) && sameLists(r.lists, s.lists) && sameTests(r.tests, s.tests)
}

// isZero is asked of results together with an error.
func (r result) isZero() bool {
	list := func(l []int) bool { return len(l) != 0 }
	number := func(n int) bool { return n != 0 }
	return !slices.ContainsFunc(r.lists, list) && len(r.tests) == 0 && len(r.faults) == 0 && !slices.ContainsFunc(r.numbers, number) && !slices.Contains(r.truths, true) && r.text == ""
}

func spare(l []int) []int {
	return append(slices.Clone(l), mark, mark, mark, mark)[:len(l)]
}

func spareLists(lists [][]int) [][]int {
	all := make([][]int, 0, len(lists)+4)
	for _, l := range lists {
		all = append(all, spare(l))
	}
	return append(all, []int{mark}, []int{mark})[:len(lists)]
}

func spareTests(t []api.Test) []api.Test {
	all := make([]api.Test, 0, len(t)+4)
	for _, one := range t {
		all = append(all, api.Test{Shown: spare(one.Shown), Read: spare(one.Read)})
	}
	return append(all, test([]int{mark}, mark), test([]int{mark}, mark))[:len(t)]
}

// spared is a question with spare capacity behind each slice.
func (q question) spared() question {
	q.m, q.shown, q.t, q.x = spareLists(q.m), spareLists(q.shown), spareTests(q.t), spare(q.x)
	return q
}

// memory is all that the slices of a question hold, with what lies behind them.
func (q question) memory() [][]int {
	all := [][]int{q.x[:cap(q.x)]}
	for _, lists := range [][][]int{q.m[:cap(q.m)], q.shown[:cap(q.shown)]} {
		for _, l := range lists {
			all = append(all, l[:cap(l)])
		}
	}
	for _, t := range q.t[:cap(q.t)] {
		all = append(all, t.Shown[:cap(t.Shown)], t.Read[:cap(t.Read)])
	}
	return all
}

func scribble(lists [][]int) {
	for _, l := range lists {
		for i := range l {
			l[i] = -mark
		}
	}
}

// right is a question of which no part is wrong.
func right() question {
	return question{m: two(), f: dark(1), g: turned(0, 0), t: []api.Test{test([]int{1, 1}, 0), test([]int{5, 5}, 0)}, shown: [][]int{{1, 0}, {0, 1}, {1, 2}}, x: []int{4, -5}}
}

func questions() []question {
	all := []question{
		right(),
		{m: two(), f: dead(1), g: dark(2), t: []api.Test{test([]int{1}, 2)}, shown: [][]int{{1}}, x: []int{1}},
		{m: api.Mask{{2}}, t: []api.Test{test([]int{1}, 2)}, shown: [][]int{{1}}, x: []int{1}},
		{m: api.Mask{{1}}, t: []api.Test{test([]int{1}, 2)}, shown: [][]int{{1}}, x: []int{1}},
	}
	s := numbers(11)
	for _, m := range largeMasks() {
		faults := faultsOf(m)
		f, g := faults[s.below(len(faults))], faults[s.below(len(faults))]
		for _, shown := range s.pictureSets(len(m[0])) {
			all = append(all, question{m: m, f: f, g: g, t: testsOf(m, f, shown), shown: shown, x: s.list(len(m[0]), -9, 9)})
		}
	}
	return all
}

// R4 and R7: a call leaves its arguments alone, what it answers is its own, list by list, and a second call answers the same.
func TestArgumentsAreLeftAlone(t *testing.T) {
	all := questions()
	for name, call := range calls() {
		for _, q := range all {
			checkCall(t, name, call, q.spared())
		}
	}
}

func checkCall(t *testing.T, name string, call func(q question) result, q question) {
	t.Helper()
	kept := copyOf(q.memory())
	first := call(q)
	want := first.copy()
	second := call(q)
	if !second.equal(want) {
		t.Error(name, "answers", want, "and then", second)
	}
	scribble(second.memory())
	clear(second.lists)
	clear(second.tests)
	clear(second.faults)
	if !sameLists(q.memory(), kept) {
		t.Error(name, "changes its arguments, or answers their memory", q)
	}
	scribble(q.memory())
	for _, lists := range [][][]int{q.m, q.shown} {
		clear(lists[:cap(lists)])
	}
	clear(q.t[:cap(q.t)])
	if !first.equal(want) {
		t.Error(name, "keeps its arguments, or answers the same memory twice", q)
	}
	checkApart(t, name, first)
}

// checkApart writes over one list after another, with its spare capacity, and looks at those behind it.
func checkApart(t *testing.T, name string, r result) {
	t.Helper()
	lists := r.memory()
	kept := copyOf(lists)
	for i := range lists {
		scribble(lists[i : i+1])
		if !sameLists(lists[i+1:], kept[i+1:]) {
			t.Error(name, "answers lists that share memory")
		}
	}
}

func TestNilAndEmptyAreAlike(t *testing.T) {
	q, r := right(), right()
	q.t, r.t, q.shown, r.shown, q.x, r.x = nil, []api.Test{}, nil, [][]int{}, nil, []int{}
	checkAlike(t, "of nothing", q, r)
	q, r = right(), right()
	q.t, r.t = []api.Test{{}}, []api.Test{{Shown: []int{}, Read: []int{}}}
	q.shown, r.shown = [][]int{nil}, [][]int{{}}
	checkAlike(t, "of an empty picture", q, r)
	q, r = right(), right()
	q.m, r.m = nil, api.Mask{}
	checkAlike(t, "of no mask", q, r)
	q.t, r.t, q.shown, r.shown = nil, []api.Test{}, nil, [][]int{}
	checkAlike(t, "of no mask and nothing", q, r)
	q, r = right(), right()
	q.m, r.m, q.x, r.x = api.Mask{nil}, api.Mask{{}}, nil, []int{}
	checkAlike(t, "of an empty mask", q, r)
}

func checkAlike(t *testing.T, what string, q, r question) {
	t.Helper()
	for name, call := range calls() {
		if !call(q).equal(call(r)) {
			t.Error(name, what, call(q), call(r))
		}
	}
}
