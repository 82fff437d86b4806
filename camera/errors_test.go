package camera_test

import (
	"slices"
	"strings"
	"testing"

	"lightsieve/api"
	"lightsieve/camera"
)

// setups are lines that bring a camera into a state in which lines are refused.
func setups() map[string][]string {
	two := []string{"row ++.", "row .++"}
	six := slices.Repeat([]string{"row ++."}, 6)
	key, test := []string{"key 0,0,0"}, []string{"test 0,0,0 1,1"}
	testOfSix := []string{"test 0,0,0 1,1,1,1,1,1"}
	return map[string][]string{
		"new": nil, "two": two, "six": six, "alike": slices.Repeat([]string{"row ++."}, 2),
		"two with a frame": slices.Concat(two, key), "two with a test": slices.Concat(two, test), "two with both": slices.Concat(two, test, key),
		"six with a frame": slices.Concat(six, key), "six with a test": slices.Concat(six, testOfSix),
		"sixty frames": slices.Concat(two, key, slices.Repeat([]string{"lost"}, 59)), "twelve tests": slices.Concat(two, slices.Repeat(test, 12)),
		"no rows any more": slices.Concat(two, key, test, []string{"clear", "cut 1", "cut 0"}),
	}
}

type refused struct {
	setup, line string
	e           api.Errno
}

// refusals have each error that a line may have, and each two of them at once where they can be.
func refusals() []refused {
	all := []refused{
		{"two", "row ++", api.ErrSize}, {"two with a frame", "row ++", api.ErrSize}, {"two with a test", "row ++++", api.ErrSize},
		{"six", "row ++", api.ErrSize}, {"six with a frame", "row ++", api.ErrSize}, {"six with a test", "row ++", api.ErrSize},
		{"two with a frame", "row +++", api.ErrState}, {"two with a test", "row +++", api.ErrState}, {"two with both", "row +++", api.ErrState},
		{"six with a frame", "row +++", api.ErrState}, {"six with a test", "row +++", api.ErrState}, {"six", "row +++", api.ErrLimit},

		{"new", "cut 0", api.ErrName}, {"two", "cut 2", api.ErrName}, {"two with a frame", "cut 2", api.ErrName}, {"two with a test", "cut 2", api.ErrName},
		{"two with both", "cut 999999", api.ErrName}, {"two with a frame", "cut 1", api.ErrState}, {"two with a test", "cut 1", api.ErrState}, {"two with both", "cut 0", api.ErrState},

		{"two", "see 1,2", api.ErrSize}, {"two", "see 9999999", api.ErrSize}, {"two", "see 1,2,3,9999999", api.ErrSize}, {"two", "see 1,2,9999999", api.ErrRange},
		{"two", "trust 11", api.ErrRange}, {"new", "trust 11", api.ErrRange}, {"two with both", "trust 999999", api.ErrRange},

		{"two", "key 0", api.ErrInvalid}, {"two with both", "key 1001,0,0", api.ErrInvalid}, {"sixty frames", "key 0,0", api.ErrInvalid},
		{"sixty frames", "key 9999999,0,0", api.ErrInvalid}, {"sixty frames", "key 0,0,0", api.ErrLimit},
		{"two", "read 1,1", api.ErrInvalid}, {"two", "read 1", api.ErrInvalid}, {"two with both", "read 1", api.ErrInvalid}, {"sixty frames", "read 1", api.ErrInvalid},
		{"sixty frames", "read 1,9999999", api.ErrInvalid}, {"sixty frames", "read 1,1", api.ErrLimit},
		{"two", "lost", api.ErrInvalid}, {"two with a test", "lost", api.ErrInvalid}, {"sixty frames", "lost", api.ErrLimit},
		{"new", "told 0", api.ErrName}, {"two", "told 0", api.ErrName}, {"two with a frame", "told 1", api.ErrName}, {"sixty frames", "told 60", api.ErrName}, {"no rows any more", "told 0", api.ErrName},

		{"two", "test 1,2 1,2", api.ErrInvalid}, {"two", "test 1,2,3 1", api.ErrInvalid}, {"two", "test 9999999,2,3 1,1", api.ErrInvalid},
		{"twelve tests", "test 1,2 1,2", api.ErrInvalid}, {"twelve tests", "test 1,2,3 1", api.ErrInvalid}, {"twelve tests", "test 9999999,2,3 1,1", api.ErrInvalid}, {"twelve tests", "test 1,2,3 1,1", api.ErrLimit},
	}
	for _, word := range []string{"sparsest ", "least "} {
		all = append(all,
			refused{"alike", word + "1", api.ErrSize}, refused{"alike", word + "9999999", api.ErrSize}, refused{"alike", word + "1,2,3", api.ErrSize}, refused{"alike", word + "1,9999999,3", api.ErrSize},
			refused{"two", word + "1,9999999", api.ErrRange}, refused{"alike", word + "1,9999999", api.ErrRange}, refused{"alike", word + "1,2", api.ErrState})
	}
	for _, setup := range []string{"new", "no rows any more"} {
		for _, line := range []string{"see 1", "see 1,2,9999999", "known", "sparsest 1", "sparsest 9999999", "least 1", "least 1,9999999", "order", "key 0", "key 9999999", "read 0", "read 9999999", "lost", "test 1 1", "test 9999999 1", "faults"} {
			all = append(all, refused{setup, line, api.ErrState})
		}
	}
	return all
}

func TestOrderOfRefusals(t *testing.T) {
	cameras := map[string]*camera.Camera{}
	for name, lines := range setups() {
		cameras[name] = done(t, lines...)
	}
	for _, r := range refusals() {
		if cameras[r.setup] == nil {
			t.Fatal("no setup", r.setup)
		}
		refuses(t, cameras[r.setup], r.line, r.e)
	}
}

// A full book refuses all lines of the forms, ahead of what they would be refused for, and others still as no lines.
func TestFullBook(t *testing.T) {
	for name, lines := range setups() {
		x := done(t, lines...)
		for range api.MaxLines - len(lines) {
			does(t, x, "trust 0")
		}
		if n := strings.Count(x.Book(), "\n"); n != 2000 {
			t.Fatal("the book has", n, "lines")
		}
		for _, r := range refusals() {
			if r.setup == name {
				refuses(t, x, r.line, api.ErrLimit)
			}
		}
		for _, line := range rightLines() {
			refuses(t, x, line, api.ErrLimit)
		}
		for _, line := range []string{"", "clear ", "row", "read -0", "trust 1000000", "row +++++++++++", "x"} {
			refuses(t, x, line, api.ErrCommand)
		}
		if y := x.Copy(); state(y) != state(x) {
			t.Error("the copy is another camera")
		}
		y, n, e := camera.Replay(x.Book())
		if e != api.OK || n != 2000 || state(y) != state(x) {
			t.Error("Replay of a full book", n, e)
		}
		refuses(t, y, "clear", api.ErrLimit)
	}
}

func TestTheLastLineOfABook(t *testing.T) {
	x := camera.New()
	for range api.MaxLines - 1 {
		does(t, x, "clear")
	}
	refuses(t, x, "cut 0", api.ErrName)
	refuses(t, x, "x", api.ErrCommand)
	y := x.Copy()
	says(t, x, "row +", "rows 1")
	refuses(t, x, "row +", api.ErrLimit)
	says(t, y, "trust 5", "trust 5")
	refuses(t, y, "trust 5", api.ErrLimit)
}
