package camera_test

import (
	"fmt"
	"slices"
	"strconv"
	"strings"
	"testing"

	"lightsieve/api"
	"lightsieve/camera"
	"lightsieve/cond"
	"lightsieve/dual"
	"lightsieve/fault"
	"lightsieve/lin"
	"lightsieve/mask"
	"lightsieve/sparse"
	"lightsieve/stream"
)

// model is the table of the document, read cell by cell.
type model struct {
	rows   api.Mask
	frames []api.Frame
	tests  []api.Test
	trust  int
	texts  []string
}

func (o *model) do(line string) (string, api.Errno) {
	if !isForm(line) {
		return "", api.ErrCommand
	}
	if len(o.texts) == 2000 {
		return "", api.ErrLimit
	}
	words := strings.Split(line, " ")
	var reply string
	var e api.Errno
	switch words[0] {
	case "row", "cut":
		reply, e = o.change(words)
	case "key", "read", "lost", "test":
		reply, e = o.put(words)
	case "trust", "told", "clear":
		reply, e = o.decode(words)
	default:
		reply, e = o.ask(words)
	}
	if e == api.OK {
		o.texts = append(o.texts, line)
	}
	return reply, e
}

func numbersIn(word string) []int {
	var all []int
	for _, part := range strings.Split(word, ",") {
		n, _ := strconv.Atoi(part)
		all = append(all, n)
	}
	return all
}

func (o *model) change(words []string) (string, api.Errno) {
	busy := len(o.frames)+len(o.tests) > 0
	if words[0] == "row" {
		row := make([]int, len(words[1]))
		for i, sign := range words[1] {
			row[i] = map[rune]int{'+': 1, '.': 0, '-': -1}[sign]
		}
		switch {
		case len(o.rows) > 0 && len(o.rows[0]) != len(row):
			return "", api.ErrSize
		case busy:
			return "", api.ErrState
		case len(o.rows) == 6:
			return "", api.ErrLimit
		}
		o.rows = append(o.rows, row)
		return fmt.Sprint("rows ", len(o.rows)), api.OK
	}
	at := numbersIn(words[1])[0]
	switch {
	case at >= len(o.rows):
		return "", api.ErrName
	case busy:
		return "", api.ErrState
	}
	o.rows = append(o.rows[:at:at], o.rows[at+1:]...)
	return fmt.Sprint("rows ", len(o.rows)), api.OK
}

func (o *model) put(words []string) (string, api.Errno) {
	if len(o.rows) == 0 {
		return "", api.ErrState
	}
	if words[0] == "test" {
		test := api.Test{Shown: numbersIn(words[1]), Read: numbersIn(words[2])}
		far := slices.Max(test.Shown) > 1000000 || slices.Min(test.Shown) < -1000000
		if len(test.Shown) != len(o.rows[0]) || far || len(test.Read) != len(o.rows) {
			return "", api.ErrInvalid
		}
		if len(o.tests) == 12 {
			return "", api.ErrLimit
		}
		o.tests = append(o.tests, test)
		return fmt.Sprint("tests ", len(o.tests)), api.OK
	}
	frame := api.Frame{Key: words[0] == "key"}
	most, length := 1000000, len(o.rows)
	if frame.Key {
		most, length = 1000, len(o.rows[0])
	}
	if words[0] != "lost" {
		frame.Values = numbersIn(words[1])
		if len(frame.Values) != length || slices.Max(frame.Values) > most || slices.Min(frame.Values) < -most {
			return "", api.ErrInvalid
		}
	}
	if len(o.frames) == 0 && !frame.Key {
		return "", api.ErrInvalid
	}
	if len(o.frames) == 60 {
		return "", api.ErrLimit
	}
	o.frames = append(o.frames, frame)
	return fmt.Sprint("frames ", len(o.frames)), api.OK
}

func (o *model) decode(words []string) (string, api.Errno) {
	switch words[0] {
	case "trust":
		trust := numbersIn(words[1])[0]
		if trust > 10 {
			return "", api.ErrRange
		}
		o.trust = trust
		return fmt.Sprint("trust ", trust), api.OK
	case "clear":
		o.frames, o.tests = nil, nil
		return "clear", api.OK
	}
	at := numbersIn(words[1])[0]
	if at >= len(o.frames) {
		return "", api.ErrName
	}
	pictures, told := o.pictures()
	if !told[at] {
		return "missing", api.OK
	}
	return listOf(pictures[at]), api.OK
}

func (o *model) pictures() ([][]int, []bool) {
	if len(o.frames) == 0 {
		return nil, nil
	}
	pictures, told, e := stream.Decode(o.rows, o.frames, min(o.trust, len(o.rows[0])))
	if e != api.OK {
		panic(e)
	}
	return pictures, told
}

func (o *model) ask(words []string) (string, api.Errno) {
	if len(o.rows) == 0 {
		return "", api.ErrState
	}
	var reply string
	var e, f api.Errno
	switch words[0] {
	case "see":
		var y []int
		y, e = mask.Read(o.rows, numbersIn(words[1]))
		reply = listOf(y)
	case "known":
		var known []int
		known, e = lin.Known(o.rows)
		reply = listOf(known)
		if len(known) == 0 {
			reply = "none"
		}
	case "sparsest":
		var n int
		n, e = sparse.Size(o.rows, numbersIn(words[1]))
		reply = fmt.Sprint("size ", n)
	case "least":
		var r api.Ratio
		r, e = dual.Value(o.rows, numbersIn(words[1]))
		reply = fmt.Sprintf("norm %d/%d", r.N, r.D)
	case "order":
		var order, sure int
		order, e = cond.Order(o.rows)
		sure, f = sparse.Sure(o.rows)
		reply = fmt.Sprintf("order %d sure %d", order, sure)
	case "faults":
		reply = fmt.Sprint("faults ", len(o.faults()))
	}
	if max(e, f) != api.OK {
		return "", max(e, f)
	}
	return reply, api.OK
}

func (o *model) faults() []api.Fault {
	if len(o.rows) == 0 {
		return nil
	}
	faults, e := fault.Which(o.rows, o.tests)
	if e != api.OK {
		panic(e)
	}
	return faults
}

func (o *model) state() string {
	pictures, told := o.pictures()
	return fmt.Sprint(o.rows, o.frames, o.tests, o.trust, pictures, told, o.faults(), "\n"+bookOf(o.texts...))
}

// line is for a model's mask most of the time, and often enough for another one.
func (s *numbers) line(o *model) string {
	rows, pixels := len(o.rows), s.from(1, 4)
	if rows > 0 {
		pixels = len(o.rows[0])
	}
	if s.below(15) == 0 {
		rows, pixels = s.from(1, 6), s.from(1, 10)
	}
	// Every now and then the frames and tests are taken away again and again, so that rows can be put in and cut.
	if len(o.frames)+len(o.tests) > 0 && len(o.texts)%40 < 15 && s.below(2) == 0 {
		return "clear"
	}
	far := []int{3, 3, 3, 1001, 1000001}[s.below(5)]
	list := func(n int) string { return listOf(s.list(max(n, 1), -far, far)) }
	count := func(n int) string { return strconv.Itoa(s.below(n + 1)) }
	switch s.below(28) {
	case 0:
		return rowsOf(s.mask(1, pixels))[0]
	case 1, 2:
		return "cut " + count(rows)
	case 3:
		return "see " + list(pixels)
	case 4:
		return "known"
	case 5:
		return "sparsest " + list(rows)
	case 6:
		return "least " + list(rows)
	case 7:
		return "order"
	case 8:
		return "trust " + count(12)
	case 9, 10:
		return "key " + list(pixels)
	case 11, 12, 13, 14:
		return "read " + s.reading(o)
	case 15:
		return "lost"
	case 16, 17, 18, 19:
		if len(o.frames) == 0 {
			return "key " + listOf(s.list(pixels, -1000, 1000))
		}
		return "told " + count(len(o.frames))
	case 20, 21:
		return "test " + list(pixels) + " " + list(rows)
	case 22:
		return "test " + listOf(slices.Repeat([]int{2}, pixels)) + " " + s.reading(o)
	case 23:
		return "faults"
	case 24:
		return []string{"clear", "known"}[s.below(2)]
	case 25:
		return wrongLines()[s.below(len(wrongLines()))]
	case 26:
		return rightLines()[s.below(len(rightLines()))]
	}
	return "read " + list(rows)
}

// reading is made by a picture of few pixels.
func (s *numbers) reading(o *model) string {
	if len(o.rows) == 0 {
		return "0"
	}
	x := make([]int, len(o.rows[0]))
	for range s.below(3) {
		x[s.below(len(x))] = s.from(-9, 9)
	}
	y, _ := mask.Read(o.rows, x)
	return listOf(y)
}

// session is lines, of which a camera refuses some.
func (s *numbers) session(count int) []string {
	o := &model{}
	var lines []string
	for range count {
		line := s.line(o)
		o.do(line)
		lines = append(lines, line)
	}
	return lines
}

// P10.2 to P10.4, for sessions of lines of all kinds: the camera does what the document's table says, line by line.
func TestSessions(t *testing.T) {
	s := numbers(26)
	counts := map[string]int{}
	for range 60 {
		o, x := &model{}, camera.New()
		for range 200 {
			line := s.line(o)
			checkLine(t, o, x, line, counts)
		}
		checkTold(t, x)
		checkFaults(t, x)
	}
	for _, first := range []string{"row", "cut", "see", "known", "sparsest", "least", "order", "trust", "key", "read", "lost", "told", "test", "faults", "clear"} {
		if counts[first] < 50 {
			t.Error("only", counts[first], "lines", first, "are not refused")
		}
	}
}

func checkLine(t *testing.T, o *model, x *camera.Camera, line string, counts map[string]int) {
	t.Helper()
	before := o.state()
	want, wantError := o.do(line)
	if reply, e := x.Do(line); reply != want || e != wantError {
		t.Fatalf("%q: %q, error %d, want %q, %d behind\n%s", line, reply, e, want, wantError, before)
	}
	if got := state(x); got != o.state() {
		t.Fatalf("%q makes\n%s\nto\n%s, want\n%s", line, before, got, o.state())
	}
	if wantError == api.OK {
		counts[strings.Split(line, " ")[0]]++
		return
	}
	if o.state() != before {
		t.Fatal("the model is wrong")
	}
}

// P10.3
func TestFramesAndTestsStayValid(t *testing.T) {
	s := numbers(3)
	for range 20 {
		x := camera.New()
		o := &model{}
		for range 100 {
			line := s.line(o)
			before := x.Copy()
			o.do(line)
			x.Do(line)
			frames, tests := x.Frames(), x.Tests()
			if len(frames) > 0 && !stream.Valid(x.Mask(), frames) || len(tests) > 0 && !fault.ValidTests(x.Mask(), tests) {
				t.Fatal("not valid", x.Mask(), frames, tests)
			}
			if len(before.Frames())+len(before.Tests()) > 0 && mask.Format(before.Mask()) != mask.Format(x.Mask()) {
				t.Fatalf("%q changes the mask", line)
			}
		}
	}
}
