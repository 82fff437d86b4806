package camera

import (
	"slices"
	"strconv"
	"strings"

	"lightsieve/api"
	"lightsieve/cond"
	"lightsieve/dual"
	"lightsieve/fault"
	"lightsieve/lin"
	"lightsieve/mask"
	"lightsieve/sparse"
	"lightsieve/stream"
)

// longestLine is how many bytes a line may have.
const longestLine = 200

// doing is what a line does with the numbers of the words behind its first one; it returns the reply.
type doing func(s *state, words [][]int) string

// form is a form of lines: what they do, and of which kinds their further words are.
type form struct {
	do    doing
	kinds []kind
}

// forms are found by the first words of their lines.
func forms() map[string]form {
	return map[string]form{
		"row":      {(*state).row, []kind{signs{}}},
		"cut":      {(*state).cut, []kind{count{}}},
		"see":      {(*state).see, []kind{list{}}},
		"known":    {(*state).known, nil},
		"sparsest": {(*state).sparsest, []kind{list{}}},
		"least":    {(*state).least, []kind{list{}}},
		"order":    {(*state).order, nil},
		"trust":    {(*state).believe, []kind{count{}}},
		"key":      {(*state).key, []kind{list{}}},
		"read":     {(*state).read, []kind{list{}}},
		"lost":     {(*state).lost, nil},
		"told":     {(*state).told, []kind{count{}}},
		"test":     {(*state).test, []kind{list{}, list{}}},
		"faults":   {(*state).faults, nil},
		"clear":    {(*state).clear, nil},
	}
}

// understood refuses what is no line.
func understood(line string) (doing, [][]int) {
	refuse(!isText(line), api.ErrCommand)
	words := strings.Split(line, " ")
	form, is := forms()[words[0]]
	refuse(!is || len(form.kinds) != len(words)-1, api.ErrCommand)
	var all [][]int
	for i, kind := range form.kinds {
		numbers, is := kind.numbers(words[i+1])
		refuse(!is, api.ErrCommand)
		all = append(all, numbers)
	}
	return form.do, all
}

// isText reports whether a text may be a line, whatever its words are.
func isText(text string) bool {
	if len(text) < 1 || len(text) > longestLine || strings.Trim(text, " ") != text {
		return false
	}
	return !slices.ContainsFunc([]byte(text), func(b byte) bool { return b < ' ' || b > '~' })
}

func (s *state) row(words [][]int) string {
	row := words[0]
	refuse(len(s.rows) > 0 && len(row) != len(s.rows[0]), api.ErrSize)
	refuse(s.busy(), api.ErrState)
	refuse(len(s.rows) == api.MaxRows, api.ErrLimit)
	s.rows = added(s.rows, row)
	return counted("rows", len(s.rows))
}

func (s *state) cut(words [][]int) string {
	at := words[0][0]
	refuse(at >= len(s.rows), api.ErrName)
	refuse(s.busy(), api.ErrState)
	s.rows = slices.Concat(s.rows[:at], s.rows[at+1:])
	return counted("rows", len(s.rows))
}

func (s *state) see(words [][]int) string {
	s.needRows()
	return listed(must(mask.Read(s.rows, words[0])))
}

func (s *state) known([][]int) string {
	s.needRows()
	known := must(lin.Known(s.rows))
	if len(known) == 0 {
		return "none"
	}
	return listed(known)
}

func (s *state) sparsest(words [][]int) string {
	s.needRows()
	return counted("size", must(sparse.Size(s.rows, words[0])))
}

func (s *state) least(words [][]int) string {
	s.needRows()
	norm := must(dual.Value(s.rows, words[0]))
	return counted("norm", norm.N) + "/" + strconv.Itoa(norm.D)
}

func (s *state) order([][]int) string {
	s.needRows()
	return counted("order", must(cond.Order(s.rows))) + counted(" sure", must(sparse.Sure(s.rows)))
}

func (s *state) believe(words [][]int) string {
	trust := words[0][0]
	refuse(trust > api.MaxPixels, api.ErrRange)
	s.trust = trust
	return counted("trust", trust)
}

func (s *state) key(words [][]int) string {
	return s.add(api.Frame{Key: true, Values: words[0]})
}

func (s *state) read(words [][]int) string {
	return s.add(api.Frame{Values: words[0]})
}

func (s *state) lost([][]int) string {
	return s.add(api.Frame{})
}

func (s *state) told(words [][]int) string {
	at := words[0][0]
	refuse(at >= len(s.frames), api.ErrName)
	pictures, told := s.pictures(at + 1)
	if !told[at] {
		return "missing"
	}
	return listed(pictures[at])
}

func (s *state) test(words [][]int) string {
	s.needRows()
	test := api.Test{Shown: words[0], Read: words[1]}
	refuse(!fault.ValidTests(s.rows, []api.Test{test}), api.ErrInvalid)
	refuse(len(s.tests) == api.MaxTests, api.ErrLimit)
	s.tests = added(s.tests, test)
	return counted("tests", len(s.tests))
}

func (s *state) faults([][]int) string {
	s.needRows()
	return counted("faults", len(s.explaining()))
}

func (s *state) clear([][]int) string {
	s.frames, s.tests = nil, nil
	return "clear"
}

// add asks whether the frame is valid behind the first one alone, since it may be one too many as well.
func (s *state) add(frame api.Frame) string {
	s.needRows()
	first := s.frames[:min(1, len(s.frames))]
	refuse(!stream.Valid(s.rows, added(first, frame)), api.ErrInvalid)
	refuse(len(s.frames) == api.MaxFrames, api.ErrLimit)
	s.frames = added(s.frames, frame)
	return counted("frames", len(s.frames))
}

// busy is a camera whose rows stay as they are.
func (s *state) busy() bool {
	return len(s.frames) > 0 || len(s.tests) > 0
}

func (s *state) needRows() {
	refuse(len(s.rows) == 0, api.ErrState)
}

// must refuses the line for the error of a function that it asks.
func must[T any](value T, e api.Errno) T {
	refuse(e != api.OK, e)
	return value
}

// added writes nothing behind the list, where a copy of the camera may have its own.
func added[T any](list []T, one T) []T {
	return append(slices.Clip(list), one)
}

func counted(word string, n int) string {
	return word + " " + strconv.Itoa(n)
}
