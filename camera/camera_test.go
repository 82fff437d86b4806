package camera_test

import (
	"fmt"
	"hash/fnv"
	"slices"
	"strconv"
	"strings"
	"testing"

	"lightsieve/api"
	"lightsieve/camera"
	"lightsieve/fault"
	"lightsieve/stream"
)

// state is all that a camera tells of itself, in a form in which nil and empty lists are the same.
func state(x *camera.Camera) string {
	pictures, told := x.Pictures()
	return fmt.Sprint(x.Mask(), x.Frames(), x.Tests(), x.Trust(), pictures, told, x.Faults(), "\n"+x.Book())
}

// done is a camera that has done lines, of which it refuses none.
func done(t *testing.T, lines ...string) *camera.Camera {
	t.Helper()
	x := camera.New()
	does(t, x, lines...)
	return x
}

func does(t *testing.T, x *camera.Camera, lines ...string) {
	t.Helper()
	for _, line := range lines {
		if reply, e := x.Do(line); e != api.OK || reply == "" {
			t.Fatalf("%q: %q, error %d", line, reply, e)
		}
	}
}

func says(t *testing.T, x *camera.Camera, line, want string) {
	t.Helper()
	before := x.Book()
	if reply, e := x.Do(line); e != api.OK || reply != want {
		t.Fatalf("%q: %q, error %d, want %q", line, reply, e, want)
	}
	if x.Book() != bookOf(append(texts(before), line)...) {
		t.Fatalf("%q makes the book %q", line, x.Book())
	}
}

// refuses also looks whether the line has changed anything.
func refuses(t *testing.T, x *camera.Camera, line string, want api.Errno) {
	t.Helper()
	before := state(x)
	if reply, e := x.Do(line); e != want || reply != "" {
		t.Fatalf("%q: %q, error %d, want %d", line, reply, e, want)
	}
	if after := state(x); after != before {
		t.Fatalf("%q is refused, and changes\n%s\nto\n%s", line, before, after)
	}
}

// texts are those of a book that is right.
func texts(book string) []string {
	var all []string
	for line := range strings.Lines(book) {
		all = append(all, strings.SplitN(strings.TrimSuffix(line, "\n"), " ", 3)[2])
	}
	return all
}

// sums are those of the lines of a book with such texts.
func sums(texts ...string) []uint64 {
	var all []uint64
	before := uint64(0)
	for _, text := range texts {
		h := fnv.New64a()
		fmt.Fprintf(h, "%016x %s", before, text)
		before = h.Sum64()
		all = append(all, before)
	}
	return all
}

// bookOf is a book with right numbers and sums, whatever its texts are.
func bookOf(texts ...string) string {
	var book strings.Builder
	for i, sum := range sums(texts...) {
		fmt.Fprintf(&book, "%d %016x %s\n", i, sum, texts[i])
	}
	return book.String()
}

// listOf is numbers as they stand in a line.
func listOf(numbers []int) string {
	words := make([]string, len(numbers))
	for i, n := range numbers {
		words[i] = strconv.Itoa(n)
	}
	return strings.Join(words, ",")
}

// rowsOf are the lines that put in the rows of a mask.
func rowsOf(m api.Mask) []string {
	var lines []string
	for _, row := range m {
		line := []byte("row ")
		for _, n := range row {
			line = append(line, "-.+"[n+1])
		}
		lines = append(lines, string(line))
	}
	return lines
}

// numbers is a fixed row of numbers that look like chance.
type numbers uint64

func (s *numbers) below(n int) int {
	*s = *s*6364136223846793005 + 1442695040888963407
	return int(uint64(*s)>>33) % n
}

func (s *numbers) from(lo, hi int) int {
	return lo + s.below(hi-lo+1)
}

func (s *numbers) list(n, lo, hi int) []int {
	l := make([]int, n)
	for i := range l {
		l[i] = s.from(lo, hi)
	}
	return l
}

func (s *numbers) mask(rows, pixels int) api.Mask {
	m := make(api.Mask, rows)
	for i := range m {
		m[i] = s.list(pixels, -1, 1)
	}
	return m
}

func TestExamples(t *testing.T) {
	x := camera.New()
	for _, c := range [][2]string{
		{"row ++.", "rows 1"}, {"row .++", "rows 2"}, {"see 5,2,9", "7,11"}, {"order", "order 1 sure 1"}, {"least 1,1", "norm 1/1"},
		{"key 0,0,0", "frames 1"}, {"trust 1", "trust 1"}, {"read 5,5", "frames 2"}, {"told 1", "0,5,0"},
	} {
		says(t, x, c[0], c[1])
	}
}

func TestNewHasNothing(t *testing.T) {
	for _, x := range []*camera.Camera{camera.New(), {}} {
		if got := state(x); got != "[] [] [] 0 [] [] []\n" {
			t.Errorf("a new camera has %q", got)
		}
	}
	if camera.New() == camera.New() {
		t.Error("New returns a camera twice")
	}
}

func TestWhatACameraHas(t *testing.T) {
	x := done(t, "row ++.", "row .-+", "trust 3", "key 1,-2,1000", "read 5,5", "lost", "test 1,2,3 4,-9999999", "test -1000000,0,1 0,0", "see 1,2,3")
	m := api.Mask{{1, 1, 0}, {0, -1, 1}}
	frames := []api.Frame{{Key: true, Values: []int{1, -2, 1000}}, {Values: []int{5, 5}}, {}}
	tests := []api.Test{{Shown: []int{1, 2, 3}, Read: []int{4, -9999999}}, {Shown: []int{-1000000, 0, 1}, Read: []int{0, 0}}}
	for what, pair := range map[string][2]any{
		"Mask": {x.Mask(), m}, "Frames": {x.Frames(), frames}, "Tests": {x.Tests(), tests}, "Trust": {x.Trust(), 3},
		"Book": {x.Book(), bookOf("row ++.", "row .-+", "trust 3", "key 1,-2,1000", "read 5,5", "lost", "test 1,2,3 4,-9999999", "test -1000000,0,1 0,0", "see 1,2,3")},
	} {
		if fmt.Sprint(pair[0]) != fmt.Sprint(pair[1]) {
			t.Error(what, pair[0], "want", pair[1])
		}
	}
}

func TestPicturesAndFaults(t *testing.T) {
	x := done(t, "row ++.", "row .++", "trust 1", "key 0,0,0", "read 5,5", "read 0,2", "lost", "read 0,0", "key 1,2,3")
	pictures, told := x.Pictures()
	if got := fmt.Sprint(pictures, told); got != "[[0 0 0] [0 5 0] [0 5 2] [] [] [1 2 3]] [true true true false false true]" {
		t.Error("Pictures returns", got)
	}
	// Without tests all faults explain what was read; each test leaves those that explain it.
	if all := x.Faults(); len(all) != 10 || all[0] != (api.Fault{}) || all[9] != (api.Fault{Kind: api.FTurn, Row: 1, Pixel: 2}) {
		t.Error("Faults without tests returns", all)
	}
	does(t, x, "test 1,0,0 0,0")
	if got := fmt.Sprint(x.Faults()); got != "[{1 0 0} {2 0 0}]" {
		t.Error("Faults returns", got)
	}
	does(t, x, "test 0,1,0 1,1")
	if got := fmt.Sprint(x.Faults()); got != "[{2 0 0}]" {
		t.Error("Faults returns", got)
	}
}

// The masks have as many pixels as the trust, fewer and more.
func TestTheLesserTrustIsUsed(t *testing.T) {
	for _, row := range []string{"+", "+-", "+.+", "+++++", "+-+-+-+-+-"} {
		for trust := range api.MaxPixels + 1 {
			pixels := len(row)
			zeros := listOf(make([]int, pixels))
			x := done(t, "row "+row, "trust "+strconv.Itoa(trust), "key "+zeros, "read 0", "read 2")
			if x.Trust() != trust {
				t.Error("the trust", trust, "is told as", x.Trust())
			}
			pictures, told := x.Pictures()
			wantPictures, wantTold, e := stream.Decode(x.Mask(), x.Frames(), min(trust, pixels))
			if e != api.OK || fmt.Sprint(pictures, told) != fmt.Sprint(wantPictures, wantTold) {
				t.Error("with the trust", trust, "of", row, pictures, told, "want", wantPictures, wantTold)
			}
			checkTold(t, x)
		}
	}
}

// checkTold asks a copy for each frame (P10.4).
func checkTold(t *testing.T, x *camera.Camera) {
	t.Helper()
	y := x.Copy()
	pictures, told := x.Pictures()
	if len(pictures) != len(x.Frames()) || len(told) != len(x.Frames()) {
		t.Fatal("pictures", pictures, told, "of frames", x.Frames())
	}
	for i, picture := range pictures {
		want := "missing"
		if told[i] {
			want = listOf(picture)
		} else if len(picture) > 0 {
			t.Error("a missing frame has the picture", picture)
		}
		if reply, e := y.Do("told " + strconv.Itoa(i)); e != api.OK || reply != want {
			t.Errorf("told %d: %q, error %d, want %q", i, reply, e, want)
		}
	}
	if _, e := y.Do("told " + strconv.Itoa(len(pictures))); e != api.ErrName {
		t.Error("told of no frame:", e)
	}
}

// checkFaults asks a copy (P10.4).
func checkFaults(t *testing.T, x *camera.Camera) {
	t.Helper()
	y := x.Copy()
	if len(x.Mask()) == 0 {
		if _, e := y.Do("faults"); e != api.ErrState || len(x.Faults()) > 0 {
			t.Error("faults without rows:", e, x.Faults())
		}
		return
	}
	want, e := fault.Which(x.Mask(), x.Tests())
	if got := x.Faults(); e != api.OK || !slices.Equal(got, want) {
		t.Error("Faults returns", got, "want", want, e)
	}
	if reply, e := y.Do("faults"); e != api.OK || reply != "faults "+strconv.Itoa(len(want)) {
		t.Errorf("faults: %q, error %d, want %d", reply, e, len(want))
	}
}

func TestNilCamera(t *testing.T) {
	var x *camera.Camera
	for _, line := range append(rightLines(), wrongLines()...) {
		if reply, e := x.Do(line); e != api.ErrState || reply != "" {
			t.Errorf("%q: %q, error %d", line, reply, e)
		}
	}
	if got := state(x); got != "[] [] [] 0 [] [] []\n" {
		t.Errorf("a nil camera has %q", got)
	}
	if x.Copy() != nil {
		t.Error("a nil camera has a copy")
	}
}
