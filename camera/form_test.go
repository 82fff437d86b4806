package camera_test

import (
	"regexp"
	"slices"
	"strconv"
	"strings"
	"testing"

	"lightsieve/api"
	"lightsieve/camera"
)

var forms = formsOfTheDocument()

// formsOfTheDocument matches the lines that are of one of them, however long they are.
func formsOfTheDocument() *regexp.Regexp {
	count := `(0|[1-9][0-9]{0,5})`
	number := `(0|-?[1-9][0-9]{0,6})`
	list := number + `(,` + number + `)*`
	signs := `[-+.]{1,10}`
	return regexp.MustCompile(`^(` + strings.Join([]string{
		`row ` + signs, `cut ` + count, `see ` + list, `known`, `sparsest ` + list, `least ` + list, `order`, `trust ` + count,
		`key ` + list, `read ` + list, `lost`, `told ` + count, `test ` + list + ` ` + list, `faults`, `clear`,
	}, `|`) + `)$`)
}

func isForm(line string) bool {
	return len(line) <= 200 && forms.MatchString(line)
}

// rightLines are of the forms, whether a camera refuses them or not.
func rightLines() []string {
	return []string{
		"row +", "row .", "row -", "row +-.+-.+-.+", "row ..........", "row ++.",
		"cut 0", "cut 1", "cut 9", "cut 10", "cut 999999", "cut 100000",
		"see 0", "see 5,2,9", "see -1", "see 9999999,-9999999", "see 1000000,-1000000", "see 10,20,30,40,50,60,70,80,90,100,110", "see -10,0,10",
		"known", "order", "lost", "faults", "clear",
		"sparsest 1,1", "sparsest 0", "sparsest 9999999", "least 1,1", "least -7", "least -9999999",
		"trust 0", "trust 1", "trust 10", "trust 11", "trust 999999",
		"key 0,0,0", "key 1000", "read 5,5", "read -1", "read 9999999", "told 0", "told 59", "told 60", "told 999999",
		"test 1 1", "test 1,2,3 4,5", "test -9999999,9999999 0", "test 0 -1",
		"see " + strings.Repeat("1,", 97) + "12", "key " + strings.Repeat("0,", 97) + "-1",
		"test " + strings.Repeat("1,", 96) + "1 1",
	}
}

// wrongLines are none of the forms.
func wrongLines() []string {
	all := []string{
		"", " ", "  ", "row", "cut", "see", "sparsest", "least", "trust", "key", "read", "told", "test", "test 1", "test 1,2",
		"row ", "cut ", "see ", "test ", "test 1 ", "known ", " known", "clear ", " clear", "  order", "order  ", "lost ", " lost",
		"row  +", "row +  +", "row + +", "row  ", "cut  0", "see  1", "see 1 ", " see 1", "test  1 1", "test 1  1", "test 1 1 ", "test 1 1 1", "test 1  ",
		"known 0", "order 1", "lost 0", "faults 1", "clear 0", "clear clear", "known known", "cut 0 0", "trust 1 1", "told 0 0", "key 1 1", "read 1 1", "lost 1 1", "see 1 1", "sparsest 1 1", "least 1 1",
		"rows +", "Row +", "ROW +", "Known", "KNOWN", "ro +", "r", "rowx +", "row+", "known0", "x", "0", "+", "hello", "missing", "none", "seen 1", "frames", "book", "copy",
		"row 0", "row 1", "row x", "row +x", "row +,+", "row ++++++++++.", "row +++++++++++", "row ....................", "row +0", "row _", "row *", "row /", "row ,", "row -0",
		"cut -0", "cut -1", "cut +1", "cut 00", "cut 01", "cut 000001", "cut 1000000", "cut 9999999", "cut 0000000", "cut 1,2", "cut x", "cut 1x", "cut 0x1", "cut 1e1", "cut 1_0", "cut .", "cut -", "cut +",
		"trust -0", "trust -1", "trust +1", "trust 01", "trust 010", "trust 1000000", "trust 1.", "trust 1,", "told -1", "told -0", "told 00", "told 1000000", "told ,", "told x", "told 99999999999999999999",
		"see -0", "see 00", "see 01", "see -01", "see +1", "see --1", "see -", "see 1-", "see 1-1", "see 1,", "see ,1", "see ,", "see 1,,2", "see 1,-0", "see -0,1", "see 1,02", "see x", "see 1,x", "see 1.5", "see 1;2", "see 1e3", "see 0x10", "see 1_000",
		"see 10000000", "see -10000000", "see 99999999", "see 1,10000000", "see -10000000,1", "see 00000001", "see 99999999999999999999",
		"key 1,", "key -0", "key 01", "key 10000000", "read -0", "read 01", "read 0,", "read 10000000", "sparsest 1,", "sparsest -0", "sparsest 10000000", "least 01", "least 1,,1", "least 10000000",
		"test 1, 1", "test 1 1,", "test -0 1", "test 1 -0", "test 01 1", "test 1 01", "test 10000000 1", "test 1 10000000", "test 1;1", "test 1,1,1,1", "test + +", "test , ,", "test ,1 1",
		"row +\n", "\nrow +", "known\n", "known\r", "known\x00", "\x00known", "known\t", "\tknown", "row\t+", "row +\x7f", "row +\x1f", "row +\x80", "row +\xff", "row é", "row \u2212", "row +\u00a0", "see\u00a01", "see 1\n", "see 1\n2", "see 1,\n2", "see １", "test 1\n1", "test 1 1\r",
		"see " + strings.Repeat("1,", 98) + "1", "key " + strings.Repeat("0,", 98) + "0", "see " + strings.Repeat("1,", 1000) + "1", "test " + strings.Repeat("1,", 97) + "1 1",
		strings.Repeat("x", 200), strings.Repeat("x", 201), strings.Repeat(" ", 200), strings.Repeat("row + ", 30), strings.Repeat("x", 100000), "row " + strings.Repeat("+", 196), "row " + strings.Repeat("+", 197),
	}
	return all
}

// lineCameras are new, with rows, with frames and tests, and so that a row or a frame too many is put in.
func lineCameras(t *testing.T) []*camera.Camera {
	t.Helper()
	full := done(t, slices.Repeat([]string{"row +.-"}, 6)...)
	return []*camera.Camera{
		camera.New(), done(t, "row +"), done(t, "row ++.", "row .++"), full,
		done(t, "row ++.", "row .++", "key 0,0,0", "read 5,5", "test 1,2,3 4,5", "trust 1"),
	}
}

func TestForms(t *testing.T) {
	for _, line := range rightLines() {
		if !isForm(line) {
			t.Fatalf("%q is a form", line)
		}
	}
	for _, line := range wrongLines() {
		if isForm(line) {
			t.Fatalf("%q is no form", line)
		}
	}
	for _, x := range lineCameras(t) {
		for _, line := range slices.Concat(rightLines(), wrongLines()) {
			checkForm(t, x, line)
		}
	}
}

func checkForm(t *testing.T, x *camera.Camera, line string) {
	t.Helper()
	if !isForm(line) {
		refuses(t, x, line, api.ErrCommand)
		return
	}
	if reply, e := x.Copy().Do(line); e == api.ErrCommand || (e == api.OK) != (reply != "") {
		t.Fatalf("%q: %q, error %d", line, reply, e)
	}
}

// Each change of a byte, each byte put in or taken away makes a line of a form or none.
func TestChangedLines(t *testing.T) {
	x := done(t, "row ++.", "row .++")
	for _, line := range []string{"row +.-", "cut 10", "see 5,-2,9", "known", "sparsest 1,1", "least 0,10", "order", "trust 10", "key 0,0,0", "read -5,5", "lost", "told 1", "test 1,0 -3,5", "faults", "clear"} {
		for at := range len(line) + 1 {
			for b := range 256 {
				with := string([]byte{byte(b)})
				checkForm(t, x, line[:at]+with+line[at:])
				if at < len(line) {
					checkForm(t, x, line[:at]+with+line[at+1:])
				}
			}
			checkForm(t, x, line[:at]+line[min(at+1, len(line)):])
			checkForm(t, x, line[:at])
			checkForm(t, x, line[at:])
		}
	}
}

// All lines of a first word and up to five further signs out of few.
func TestShortWords(t *testing.T) {
	x := done(t, "row ++.", "row .++")
	var words []string
	for level := []string{""}; len(level[0]) < 5; {
		var next []string
		for _, word := range level {
			for _, sign := range []string{"0", "1", "-", ",", " ", "+", "."} {
				next = append(next, word+sign)
			}
		}
		words = append(words, next...)
		level = next
	}
	for _, first := range []string{"row", "cut", "see", "test"} {
		for _, word := range words {
			_, e := x.Copy().Do(first + " " + word)
			if want := isForm(first + " " + word); (e != api.ErrCommand) != want {
				t.Fatalf("%q: error %d, a form: %t", first+" "+word, e, want)
			}
		}
	}
}

// The lengths of numbers, of words of signs and of lines at their bounds.
func TestBoundsOfForms(t *testing.T) {
	x := done(t, "row +")
	for digits := range 20 {
		ones := strings.Repeat("1", digits)
		for line, most := range map[string]int{"cut " + ones: 6, "trust " + ones: 6, "told " + ones: 6, "see " + ones: 7, "see -" + ones: 7, "see 0,-" + ones + ",0": 7, "test 0 " + ones: 7, "test -" + ones + " 0": 7} {
			_, e := x.Copy().Do(line)
			if want := digits >= 1 && digits <= most; (e != api.ErrCommand) != want {
				t.Errorf("%q: error %d", line, e)
			}
		}
		_, e := camera.New().Do("row " + strings.Repeat("-", digits))
		if want := digits >= 1 && digits <= 10; (e == api.OK) != want || !want && e != api.ErrCommand {
			t.Errorf("%d signs: error %d", digits, e)
		}
	}
	for length := 150; length <= 250; length++ {
		line := "see " + strings.Repeat("1", length%2) + strings.Repeat("1,", (length-4)/2)
		line = line[:len(line)-1] + strconv.Itoa(7)
		if _, e := x.Copy().Do(line); len(line) != length || (e == api.ErrSize) != (length <= 200) || length > 200 && e != api.ErrCommand {
			t.Errorf("a line of %d bytes: error %d", len(line), e)
		}
	}
}
