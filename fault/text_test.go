package fault_test

import (
	"math"
	"regexp"
	"slices"
	"strconv"
	"strings"
	"testing"

	"lightsieve/api"
	"lightsieve/fault"
)

func TestFormat(t *testing.T) {
	for _, c := range []struct {
		t []api.Test
		s string
	}{
		{nil, ""},
		{[]api.Test{}, ""},
		{[]api.Test{test([]int{0}, 0)}, "0 : 0\n"},
		{[]api.Test{test([]int{1, 2}, -1)}, "1 2 : -1\n"},
		{[]api.Test{test([]int{1, 2}, -1), test([]int{-10, 0}, 10)}, "1 2 : -1\n-10 0 : 10\n"},
		{[]api.Test{test([]int{1000000, -1000000, 100}, 1000000000, -1000000000)}, "1000000 -1000000 100 : 1000000000 -1000000000\n"},
		// They fit no mask: lists of other lengths, longer ones than masks have, and greater numbers than are shown.
		{[]api.Test{test([]int{1}, 1, 2, 3, 4, 5, 6, 7), test([]int{1, 2}, 5)}, "1 : 1 2 3 4 5 6 7\n1 2 : 5\n"},
		{[]api.Test{test(filled(11, 1), filled(20, 2)...)}, "1 1 1 1 1 1 1 1 1 1 1 : 2 2 2 2 2 2 2 2 2 2 2 2 2 2 2 2 2 2 2 2\n"},
		{[]api.Test{test([]int{1000000000, -1000000000}, 7)}, "1000000000 -1000000000 : 7\n"},
		{slices.Repeat([]api.Test{test([]int{3, 4}, 5, 6)}, 12), strings.Repeat("3 4 : 5 6\n", 12)},
	} {
		if s := fault.Format(c.t); s != c.s {
			t.Errorf("Format(%v) = %q", c.t, s)
		}
		if tests, line, e := fault.Parse(c.s); !sameTests(tests, c.t) || line != 0 || e != api.OK {
			t.Errorf("Parse(%q) = %v, %d, %d", c.s, tests, line, e)
		}
	}
}

// Numbers that Parse does not read have texts all the same.
func TestFormatOfGreatNumbers(t *testing.T) {
	for n, s := range map[int]string{
		1000000001: "1000000001", -1000000001: "-1000000001", math.MaxInt: "9223372036854775807", math.MinInt: "-9223372036854775808",
	} {
		if text := fault.Format([]api.Test{test([]int{n}, 1)}); text != s+" : 1\n" {
			t.Errorf("Format of %d shown = %q", n, text)
		}
		if text := fault.Format([]api.Test{test([]int{1}, n)}); text != "1 : "+s+"\n" {
			t.Errorf("Format of %d read = %q", n, text)
		}
	}
}

func TestFormatOfNoTests(t *testing.T) {
	right := test([]int{1, 2}, 3)
	for _, wrong := range []api.Test{{}, test(nil, 1), test([]int{}, 1), test([]int{1}), {Shown: []int{1}, Read: []int{}}, {Shown: []int{}, Read: []int{}}} {
		for _, tests := range [][]api.Test{{wrong}, {right, wrong}, {wrong, right}, {right, wrong, right}} {
			if s := fault.Format(tests); s != "" {
				t.Errorf("Format(%v) = %q", tests, s)
			}
		}
	}
	for _, n := range []int{13, 14, 1000} {
		if s := fault.Format(slices.Repeat([]api.Test{right}, n)); s != "" {
			t.Errorf("Format of %d tests = %q", n, s)
		}
	}
}

// P9.6
func TestParseOfFormat(t *testing.T) {
	s := numbers(10)
	for n := -1000; n <= 1000; n++ {
		checkRound(t, []api.Test{test([]int{n, 1000000 * n}, 1000*n, n-7)})
	}
	for count := range 13 {
		for range 50 {
			var tests []api.Test
			for range count {
				tests = append(tests, test(s.list(1+s.below(12), -1000000000, 1000000000), s.list(1+s.below(8), -20, 20)...))
			}
			checkRound(t, tests)
		}
	}
	for _, m := range largeMasks() {
		all := faultsOf(m)
		checkRound(t, testsOf(m, all[s.below(len(all))], s.lists(s.below(13), len(m[0]), -1000000, 1000000)))
	}
}

func checkRound(t *testing.T, tests []api.Test) {
	t.Helper()
	if read, line, e := fault.Parse(fault.Format(tests)); !sameTests(read, tests) || line != 0 || e != api.OK {
		t.Fatal("Parse of Format", tests, read, line, e)
	}
}

func TestParseWrongLine(t *testing.T) {
	first := "1 2 : 3\n"
	for _, c := range []struct {
		s    string
		line int
	}{
		{"\n", 0}, {" ", 0}, {"\n" + first, 0}, {first + "\n", 1}, {first + "\n" + first, 1}, {first + first + " \n", 2}, {first + "x", 1}, {first + " ", 1},
		{"1 2 : 3", 0}, {first + "1 2 : 3", 1}, {first + "1", 1}, {first + "1 2 :", 1}, {first + first + "5 : 5", 2}, {"1", 0},
		{":\n", 0}, {" : \n", 0}, {" :\n", 0}, {": \n", 0}, {"1 : \n", 0}, {"1 :\n", 0}, {" : 1\n", 0}, {": 1\n", 0}, {"1 2 3\n", 0}, {"1\n", 0}, {"1 2 3 \n", 0}, {"1:\n", 0}, {":1\n", 0},
		{"1:2\n", 0}, {"1: 2\n", 0}, {"1 :2\n", 0}, {"1 2 : 3 : 4\n", 0}, {"1 2 : : 3\n", 0}, {"1 2 :: 3\n", 0}, {": 1 : 2\n", 0}, {"1 : 2 :\n", 0}, {"1 : 2 : \n", 0}, {"1:1 : 2\n", 0}, {"1 : 2:2\n", 0}, {first + "1 : 2 : 3\n", 1},
		{"1  2 : 3\n", 0}, {" 1 2 : 3\n", 0}, {"1 2  : 3\n", 0}, {"1 2 :  3\n", 0}, {"1 2 : 3 \n", 0}, {"1 2 : 3  4\n", 0}, {"1 2\t: 3\n", 0}, {"1\t2 : 3\n", 0}, {"1 2 : 3\r\n", 0}, {first + "1 2 : 3 \n", 1}, {first + " 1 2 : 3\n", 1},
		{"01 2 : 3\n", 0}, {"1 02 : 3\n", 0}, {"1 2 : 03\n", 0}, {"00 2 : 3\n", 0}, {"1 2 : 00\n", 0}, {"-0 2 : 3\n", 0}, {"1 2 : -0\n", 0}, {"1 -02 : 3\n", 0}, {"1 2 : -03\n", 0}, {"+1 2 : 3\n", 0}, {"1 2 : +3\n", 0}, {"1 +0 : 3\n", 0}, {first + "1 2 : 003\n", 1},
		{"- 2 : 3\n", 0}, {"--1 2 : 3\n", 0}, {"1- : 3\n", 0}, {"1 2 : 3-\n", 0}, {"1 2 : -\n", 0}, {"1.0 : 3\n", 0}, {"1 : 1e1\n", 0}, {"0x1 : 3\n", 0}, {"1_0 : 3\n", 0}, {"a : 3\n", 0}, {"1,2 : 3\n", 0}, {"1 2 : 3,4\n", 0},
		{"1000000001 : 0\n", 0}, {"-1000000001 : 0\n", 0}, {"0 : 1000000001\n", 0}, {"0 : -1000000001\n", 0}, {"0 10000000000 : 0\n", 0}, {"18446744073709551616 : 0\n", 0}, {"0 : 18446744073709551617\n", 0}, {"4294967296 : 1\n", 0}, {"0 : -99999999999999999999999999\n", 0}, {first + "0 : 9223372036854775808\n", 1},
		{"1 2 : 3\x00\n", 0}, {"\ufeff1 2 : 3\n", 0}, {"1\u00a02 : 3\n", 0}, {"1 2 \uff1a 3\n", 0}, {"1 2 : \u22123\n", 0}, {"1 2 : \uff13\n", 0}, {"1 2 : 3\xff\n", 0},
		{strings.Repeat(first, 13), 12}, {strings.Repeat(first, 12) + "\n", 12}, {strings.Repeat(first, 12) + "1", 12}, {strings.Repeat(first, 12) + "x\n", 12}, {strings.Repeat(first, 11) + "x\n", 11}, {strings.Repeat(first, 11) + "1 2 : 3", 11}, {strings.Repeat(first, 100), 12}, {strings.Repeat(first, 11) + "1 2 : x\n" + first, 11},
		{first + "x\ny\n", 1}, {"x\n" + first, 0}, {first + first + "1\n : \nx\n", 2},
	} {
		if tests, line, e := fault.Parse(c.s); len(tests) != 0 || line != c.line || e != api.ErrSyntax {
			t.Errorf("Parse(%q) = %v, %d, %d", c.s, tests, line, e)
		}
	}
}

func TestParseLong(t *testing.T) {
	long := strings.Repeat("0 ", 32766) + ": 0\n"
	if tests, line, e := fault.Parse(long); len(long) != 65536 || len(tests) != 1 || len(tests[0].Shown) != 32766 || len(tests[0].Read) != 1 || line != 0 || e != api.OK || fault.Format(tests) != long {
		t.Error("Parse of", len(long), "bytes", len(tests), line, e)
	}
	first := "1 2 : 3\n"
	for _, c := range []struct {
		s    string
		line int
		e    api.Errno
	}{
		{strings.Repeat("1", 65536), 0, api.ErrSyntax},
		{strings.Repeat(" ", 65536), 0, api.ErrSyntax},
		{strings.Repeat("\n", 65536), 0, api.ErrSyntax},
		{strings.Repeat(first, 8192), 12, api.ErrSyntax},
		{first + strings.Repeat("1", 65536-len(first)), 1, api.ErrSyntax},
		{strings.Repeat("0 ", 32766) + ": 0 ", 0, api.ErrSyntax},
		{strings.Repeat("0 ", 32766) + ": 10\n", 0, api.ErrLong},
		{strings.Repeat(first, 8192) + "\n", 0, api.ErrLong},
		{first + strings.Repeat("1", 65537-len(first)), 0, api.ErrLong},
		{strings.Repeat("x", 65537), 0, api.ErrLong},
		{strings.Repeat("\x00", 1000000), 0, api.ErrLong},
	} {
		if tests, line, e := fault.Parse(c.s); len(tests) != 0 || line != c.line || e != c.e {
			t.Errorf("Parse of %d bytes = %v, %d, %d", len(c.s), tests, line, e)
		}
	}
}

// lineForm leaves it to firstWrong how great the numbers are.
var lineForm = regexp.MustCompile(`^(0|-?[1-9][0-9]*)( (0|-?[1-9][0-9]*))* :( (0|-?[1-9][0-9]*))+\n$`)

// firstWrong is -1 for a right text.
func firstWrong(s string) int {
	for i, line := range strings.SplitAfter(s, "\n") {
		if line == "" {
			break
		}
		if !lineForm.MatchString(line) || i == 12 {
			return i
		}
		for _, word := range strings.Fields(line) {
			if n, err := strconv.ParseInt(word, 10, 64); word != ":" && (err != nil || n < -1000000000 || n > 1000000000) {
				return i
			}
		}
	}
	return -1
}

func checkParse(t *testing.T, s string) {
	t.Helper()
	tests, line, e := fault.Parse(s)
	if want := firstWrong(s); want >= 0 {
		if len(tests) != 0 || line != want || e != api.ErrSyntax {
			t.Fatalf("Parse(%q) = %v, %d, %d", s, tests, line, e)
		}
	} else if line != 0 || e != api.OK || fault.Format(tests) != s {
		t.Fatalf("Parse(%q) = %v, %d, %d", s, tests, line, e)
	}
}

// All texts of a few pieces.
func TestParseOfAllShortTexts(t *testing.T) {
	var check func(s string, left int)
	check = func(s string, left int) {
		checkParse(t, s)
		if left > 0 {
			for _, piece := range []string{"0", "1", "-", " ", ":", "\n"} {
				check(s+piece, left-1)
			}
		}
	}
	check("", 7)
	check("1 : 0\n", 5)
	check("1 2 : 3", 5)
}

// Right texts with a byte less, another one, or one more.
func TestParseOfAlmostRightTexts(t *testing.T) {
	for _, s := range []string{
		"0 : 0\n", "1 2 : -1\n", "1 2 : -1\n-10 0 : 10\n", "1000000 -1000000 : 10000000 -1000000000\n1000000000 : 999999999\n", strings.Repeat("1 : 2\n", 11), strings.Repeat("1 : 2\n", 12), "1 : 1 2 3 4 5 6 7 8\n1 2 3 4 5 6 7 8 9 10 11 : 1\n",
	} {
		checkParse(t, s)
		for i := range len(s) + 1 {
			checkParse(t, s[:i])
			if i < len(s) {
				checkParse(t, s[:i]+s[i+1:])
			}
			for _, c := range []string{"-", "0", "1", "9", " ", "+", "\n", ":", " :", ": ", " : ", "1 : 2\n", "\xff", "\u2212"} {
				checkParse(t, s[:i]+c+s[i:])
				if i < len(s) {
					checkParse(t, s[:i]+c+s[i+1:])
				}
			}
		}
	}
}
