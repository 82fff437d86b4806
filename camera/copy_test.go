package camera_test

import (
	"slices"
	"strings"
	"sync"
	"testing"

	"lightsieve/api"
	"lightsieve/camera"
)

const mark = -12321

func scribble(lists ...[]int) {
	for _, l := range lists {
		for i := range l[:cap(l)] {
			l[:cap(l)][i] = mark
		}
	}
}

// scribbleAll writes over all that a camera returns, and over what lies behind it.
func scribbleAll(x *camera.Camera) {
	m, frames, tests, faults := x.Mask(), x.Frames(), x.Tests(), x.Faults()
	pictures, told := x.Pictures()
	scribble(m[:cap(m)]...)
	scribble(pictures[:cap(pictures)]...)
	for _, f := range frames[:cap(frames)] {
		scribble(f.Values)
	}
	for _, test := range tests[:cap(tests)] {
		scribble(test.Shown, test.Read)
	}
	clear(m[:cap(m)])
	clear(frames[:cap(frames)])
	clear(tests[:cap(tests)])
	clear(faults[:cap(faults)])
	clear(pictures[:cap(pictures)])
	clear(told[:cap(told)])
}

// lists are all lists of numbers that a camera returns in one result each.
func lists(x *camera.Camera) [][][]int {
	var frames, tests [][]int
	for _, f := range x.Frames() {
		frames = append(frames, f.Values)
	}
	for _, test := range x.Tests() {
		tests = append(tests, test.Shown, test.Read)
	}
	pictures, _ := x.Pictures()
	return [][][]int{x.Mask(), frames, tests, pictures}
}

// sampleCameras have done the lines of a session, some of them without a clear at the end.
func sampleCameras(t *testing.T) []*camera.Camera {
	t.Helper()
	all := []*camera.Camera{
		camera.New(), done(t, "row +"), done(t, bookLines()...),
		done(t, "row ++.", "row .++", "trust 1", "key 1,2,3", "read 5,5", "read 0,0", "key 0,0,0", "test 1,2,3 4,5", "test 0,0,0 1,1"),
	}
	s := numbers(77)
	for range 30 {
		x := camera.New()
		for _, line := range s.session(s.from(20, 90)) {
			x.Do(line)
		}
		all = append(all, x)
	}
	return all
}

// R4 and P10.1: a caller may do with results as it likes.
func TestResultsAreTheCallers(t *testing.T) {
	for _, x := range sampleCameras(t) {
		y := x.Copy()
		before := state(x)
		scribbleAll(x)
		if state(x) != before || state(y) != before {
			t.Fatal("a caller changes a camera:", before)
		}
		scribbleAll(y)
		if state(x) != before || state(y) != before {
			t.Fatal("a caller changes the camera of a copy:", before)
		}
		for _, result := range lists(x) {
			checkApart(t, result)
		}
		masks, e := camera.Masks(x.Book())
		if e != api.OK {
			t.Fatal("Masks:", e)
		}
		var rows [][]int
		for _, m := range masks {
			rows = append(rows, m...)
		}
		checkApart(t, rows)
	}
}

// checkApart writes over one list after another, and looks at those behind it.
func checkApart(t *testing.T, lists [][]int) {
	t.Helper()
	for i := range lists {
		scribble(lists[i])
		for _, other := range lists[i+1:] {
			if slices.Contains(other, mark) {
				t.Fatal("lists of a result share memory", lists)
			}
		}
	}
}

// The rows of two masks are two lists, although the camera has one of them behind both lines.
func TestMasksShareNoMemory(t *testing.T) {
	book := bookOf("row +.", "row -+", "cut 0")
	masks, _ := camera.Masks(book)
	masks[0][0][0], masks[1][1][0] = 5, 5
	clear(masks[1][:1])
	if masks[1][0] != nil || masks[2][0][0] != -1 {
		t.Error("the masks share memory", masks)
	}
	again, _ := camera.Masks(book)
	if again[0][0][0] != 1 || again[1][1][0] != -1 || again[2][0][0] != -1 {
		t.Error("Masks of the same book", again)
	}
}

func TestLinesOfABookAreTheCallers(t *testing.T) {
	book := bookOf(bookLines()...)
	l, _, _ := camera.Lines(book)
	clear(l[:cap(l)])
	replies, _ := camera.Replies(book)
	clear(replies[:cap(replies)])
	x, _, _ := camera.Replay(book)
	y, _, _ := camera.Replay(book)
	does(t, x, "clear")
	if again, _, _ := camera.Lines(book); !slices.Equal(again, linesOf(bookLines()...)) || y.Book() != book {
		t.Error("a caller changes a book")
	}
}

// R7: what is asked twice is answered alike, and asking changes nothing.
func TestAskedTwice(t *testing.T) {
	for _, x := range sampleCameras(t) {
		before := state(x)
		for range 3 {
			if state(x) != before {
				t.Fatal("asking changes a camera", before)
			}
		}
		y, n, e := camera.Replay(before[strings.Index(before, "\n")+1:])
		z, m, f := camera.Replay(x.Book())
		if n != m || e != f || state(y) != before || state(z) != before {
			t.Fatal("Replay answers another camera", n, m, e, f)
		}
	}
}

// ways are lines by which a camera and its copies go their own ways.
func ways() [][]string {
	return [][]string{
		{"trust 7"}, {"clear"}, {"key 7,7,7"}, {"read 1,1"}, {"lost"}, {"test 7,7,7 7,7"}, {"see 7,7,7"},
		{"clear", "row ---"}, {"clear", "cut 0"}, {"clear", "cut 1", "row +-+"}, {"clear", "cut 0", "cut 0", "row +"},
		{"clear", "key 9,9,9", "read 2,2", "test 9,9,9 9,9"}, {"lost", "key 3,3,3", "trust 0", "told 0"},
	}
}

// goes does lines, of which some may be refused.
func goes(x *camera.Camera, lines ...string) {
	for _, line := range lines {
		x.Do(line)
	}
}

// Each way is gone on a copy, on a copy of that, and on the camera itself, and changes none of the others.
func TestCopiesGoTheirOwnWays(t *testing.T) {
	lines := []string{"row ++.", "row .++", "trust 1", "key 1,2,3", "read 5,5", "test 1,2,3 4,5"}
	for _, first := range ways() {
		for _, second := range ways() {
			x := done(t, lines...)
			y := x.Copy()
			if y == x || state(y) != state(x) {
				t.Fatal("the copy is another camera, or the same one")
			}
			goes(y, first...)
			z := y.Copy()
			goes(x, second...)
			goes(z, second...)
			for at, one := range []*camera.Camera{x, y, z} {
				want := done(t, lines...)
				goes(want, [][]string{second, first, slices.Concat(first, second)}[at]...)
				if state(one) != state(want) {
					t.Fatal("after", first, "and", second, "a camera is\n", state(one), "\nwant\n", state(want))
				}
			}
		}
	}
}

// A camera that is copied as a value is a copy as well.
func TestCopiedValues(t *testing.T) {
	x := done(t, "row ++.", "row .++", "key 1,2,3", "test 1,2,3 4,5")
	y := *x
	for range 5 {
		does(t, x, "read 1,1", "test 0,0,0 1,1")
		does(t, &y, "lost", "test 7,7,7 7,7")
	}
	want := done(t, texts(x.Book())...)
	wantY := done(t, texts(y.Book())...)
	if state(x) != state(want) || state(&y) != state(wantY) {
		t.Error("the cameras share memory\n", state(x), "\n", state(&y))
	}
}

// Cameras and their copies may be used at the same time.
func TestCopiesAtTheSameTime(t *testing.T) {
	x := done(t, "row ++.", "row .++", "trust 1", "key 1,2,3", "test 1,2,3 3,5")
	states := make([]string, 16)
	var all sync.WaitGroup
	for i := range states {
		y := x.Copy()
		all.Go(func() {
			for range 20 {
				y.Do("read 5,5")
				y.Do("test 0,0,0 0,0")
				y.Do("told 1")
				y.Pictures()
			}
			states[i] = state(y)
		})
	}
	all.Wait()
	if len(slices.Compact(states)) != 1 {
		t.Error("the copies part")
	}
}
