package stream_test

import (
	"slices"
	"testing"

	"lightsieve/api"
	"lightsieve/stream"
)

const mark = 12321

// question is what a call is handed.
type question struct {
	m               api.Mask
	p               [][]int
	f, g            []api.Frame
	x, y            []int
	every, trust, i int
}

// result is what a call answers: the lists and the frames themselves.
type result struct {
	lists   [][]int
	frames  []api.Frame
	numbers []int
	truths  []bool
	text    string
	e       api.Errno
}

func calls() map[string]func(q question) result {
	list := func(l []int, e api.Errno) result { return result{lists: [][]int{l}, e: e} }
	number := func(n int, e api.Errno) result { return result{numbers: []int{n}, e: e} }
	truth := func(is bool, e api.Errno) result { return result{truths: []bool{is}, e: e} }
	frames := func(f []api.Frame, e api.Errno) result { return result{frames: f, e: e} }
	return map[string]func(q question) result{
		"ValidPictures": func(q question) result { return truth(stream.ValidPictures(q.m, q.p), api.OK) },
		"Valid":         func(q question) result { return truth(stream.Valid(q.m, q.f), api.OK) },
		"Encode":        func(q question) result { return frames(stream.Encode(q.m, q.p, q.every)) },
		"Decode": func(q question) result {
			p, told, e := stream.Decode(q.m, q.f, q.trust)
			return result{lists: p, truths: told, e: e}
		},
		"Missing":  func(q question) result { return list(stream.Missing(q.m, q.f, q.trust)) },
		"Change":   func(q question) result { return list(stream.Change(q.m, q.x, q.y)) },
		"Sizes":    func(q question) result { return list(stream.Sizes(q.m, q.p)) },
		"Sent":     func(q question) result { return truth(stream.Sent(q.m, q.p, q.every, q.trust)) },
		"Cost":     func(q question) result { return number(stream.Cost(q.m, q.f)) },
		"Sparsest": func(q question) result { return number(stream.Sparsest(q.m, q.p, q.trust)) },
		"Lose":     func(q question) result { return frames(stream.Lose(q.m, q.f, q.i)) },
		"Harm":     func(q question) result { return number(stream.Harm(q.m, q.f, q.i, q.trust)) },
		"Worst":    func(q question) result { return number(stream.Worst(q.m, q.f, q.trust)) },
		"Keys":     func(q question) result { return list(stream.Keys(q.m, q.f)) },
		"Joined":   func(q question) result { return frames(stream.Joined(q.m, q.f, q.g)) },
		"Format":   func(q question) result { return result{text: stream.Format(q.m, q.f)} },
		"Parse": func(q question) result {
			f, line, e := stream.Parse(q.m, stream.Format(q.m, q.f))
			return result{frames: f, numbers: []int{line}, e: e}
		},
	}
}

// memory is all that the slices of a result hold, with what lies behind them.
func (r result) memory() [][]int {
	var all [][]int
	for _, l := range r.lists {
		all = append(all, l[:cap(l)])
	}
	for _, f := range r.frames {
		all = append(all, f.Values[:cap(f.Values)])
	}
	return all
}

func copyOf(lists [][]int) [][]int {
	var all [][]int
	for _, l := range lists {
		all = append(all, slices.Clone(l))
	}
	return all
}

func copyOfFrames(f []api.Frame) []api.Frame {
	var all []api.Frame
	for _, frame := range f {
		all = append(all, api.Frame{Key: frame.Key, Values: slices.Clone(frame.Values)})
	}
	return all
}

func (r result) copy() result {
	return result{copyOf(r.lists), copyOfFrames(r.frames), slices.Clone(r.numbers), slices.Clone(r.truths), r.text, r.e}
}

func (r result) equal(s result) bool {
	return r.e == s.e && r.text == s.text && slices.Equal(r.numbers, s.numbers) && slices.Equal(r.truths, s.truths) && sameLists(r.lists, s.lists) && sameFrames(r.frames, s.frames)
}

// isZero is asked of results together with an error.
func (r result) isZero() bool {
	list := func(l []int) bool { return len(l) != 0 }
	number := func(n int) bool { return n != 0 }
	return !slices.ContainsFunc(r.lists, list) && len(r.frames) == 0 && !slices.ContainsFunc(r.numbers, number) && !slices.Contains(r.truths, true)
}

func spare(l []int) []int {
	return append(slices.Clone(l), mark, mark, mark, mark)[:len(l)]
}

func spareLists(lists [][]int) [][]int {
	all := make([][]int, 0, len(lists)+4)
	for _, l := range lists {
		all = append(all, spare(l))
	}
	return append(all, []int{mark}, []int{mark})[:len(lists)]
}

func spareFrames(f []api.Frame) []api.Frame {
	all := make([]api.Frame, 0, len(f)+4)
	for _, frame := range f {
		all = append(all, api.Frame{Key: frame.Key, Values: spare(frame.Values)})
	}
	return append(all, key(mark), read(mark))[:len(f)]
}

// spared is a question with spare capacity behind each slice.
func (q question) spared() question {
	q.m, q.p = spareLists(q.m), spareLists(q.p)
	q.f, q.g = spareFrames(q.f), spareFrames(q.g)
	q.x, q.y = spare(q.x), spare(q.y)
	return q
}

// memory is all that the slices of a question hold, with what lies behind them.
func (q question) memory() [][]int {
	all := [][]int{q.x[:cap(q.x)], q.y[:cap(q.y)]}
	for _, lists := range [][][]int{q.m[:cap(q.m)], q.p[:cap(q.p)]} {
		for _, l := range lists {
			all = append(all, l[:cap(l)])
		}
	}
	for _, frames := range [][]api.Frame{q.f[:cap(q.f)], q.g[:cap(q.g)]} {
		for _, f := range frames {
			all = append(all, f.Values[:cap(f.Values)])
		}
	}
	return all
}

// kept is a copy of a question, also of what lies behind its slices.
func (q question) kept() result {
	return result{lists: copyOf(q.memory()), frames: copyOfFrames(slices.Concat(q.f[:cap(q.f)], q.g[:cap(q.g)]))}
}

func scribble(lists [][]int) {
	for _, l := range lists {
		for i := range l {
			l[i] = -mark
		}
	}
}

// right is a question of which no part is wrong.
func right() question {
	e := example(3, 1)
	return question{m: e.m, p: e.p, f: e.f, g: []api.Frame{key(), read(), key(1, 2, 3), read(0, 0)}, x: []int{1, 2, 3}, y: []int{1, 0, -1000}, every: 2, trust: 1, i: 1}
}

func questions() []question {
	all := []question{
		right(),
		{m: three(), p: [][]int{{1, 2}}, f: []api.Frame{read(0, 0)}, g: []api.Frame{key(0)}, x: []int{1}, every: 61, trust: 4, i: 9},
		{m: api.Mask{{2}}, p: [][]int{{1}}, f: []api.Frame{key(0)}, g: []api.Frame{key(0)}, x: []int{1}, y: []int{1}, every: 1},
		{m: api.Mask{{1}}, p: [][]int{{1}}, f: []api.Frame{key(0)}, g: []api.Frame{key(0)}, x: []int{1}, y: []int{1}, every: 1},
	}
	for _, s := range samples() {
		all = append(all, question{m: s.m, p: s.p, f: s.f, g: encoded(s.m, s.p, 1), x: s.p[0], y: s.p[len(s.p)-1], every: len(s.p), trust: s.trust, i: len(s.f) - 1})
	}
	return all
}

// R4 and R7: a call leaves its arguments alone, what it answers is its own, list by list, and a second call answers the same.
func TestArgumentsAreLeftAlone(t *testing.T) {
	for name, call := range calls() {
		for _, q := range questions() {
			checkCall(t, name, call, q.spared())
		}
	}
}

func checkCall(t *testing.T, name string, call func(q question) result, q question) {
	t.Helper()
	kept := q.kept()
	first := call(q)
	want := first.copy()
	second := call(q)
	if !second.equal(want) {
		t.Error(name, "answers", want, "and then", second)
	}
	scribble(second.memory())
	clear(second.lists)
	clear(second.frames)
	if !q.kept().equal(kept) {
		t.Error(name, "changes its arguments, or answers their memory", q)
	}
	scribble(q.memory())
	for _, lists := range [][][]int{q.m, q.p} {
		clear(lists[:cap(lists)])
	}
	for _, frames := range [][]api.Frame{q.f, q.g} {
		clear(frames[:cap(frames)])
	}
	if !first.equal(want) {
		t.Error(name, "keeps its arguments, or answers the same memory twice", q)
	}
	checkApart(t, name, first)
}

// checkApart writes over one list after another, with its spare capacity, and looks at those behind it.
func checkApart(t *testing.T, name string, r result) {
	t.Helper()
	lists := r.memory()
	kept := copyOf(lists)
	for i := range lists {
		scribble(lists[i : i+1])
		if !sameLists(lists[i+1:], kept[i+1:]) {
			t.Error(name, "answers lists that share memory")
		}
	}
}

func TestNilAndEmptyAreAlike(t *testing.T) {
	q, r := right(), right()
	q.f, r.f = []api.Frame{key(1, 2, 3), {}, {Key: true}, {}}, []api.Frame{key(1, 2, 3), {Values: []int{}}, {Key: true, Values: []int{}}, {Values: []int{}}}
	q.g, r.g = q.f, r.f
	checkAlike(t, "of lost frames", q, r)
	q, r = right(), right()
	q.p, r.p, q.f, r.f, q.x, r.x = nil, [][]int{}, nil, []api.Frame{}, nil, []int{}
	checkAlike(t, "of nothing", q, r)
	q, r = right(), right()
	q.p, r.p, q.g, r.g, q.y, r.y = [][]int{nil}, [][]int{{}}, nil, []api.Frame{}, nil, []int{}
	checkAlike(t, "of an empty picture", q, r)
	q, r = right(), right()
	q.m, r.m = nil, api.Mask{}
	checkAlike(t, "of no mask", q, r)
	q.m, r.m = api.Mask{nil}, api.Mask{{}}
	q.p, r.p, q.x, r.x, q.y, r.y = [][]int{nil}, [][]int{{}}, nil, []int{}, nil, []int{}
	checkAlike(t, "of an empty mask", q, r)
}

func checkAlike(t *testing.T, what string, q, r question) {
	t.Helper()
	for name, call := range calls() {
		if !call(q).equal(call(r)) {
			t.Error(name, what, call(q), call(r))
		}
	}
}
