package bit_test

import (
	"regexp"
	"slices"
	"strconv"
	"strings"
	"testing"

	"lightsieve/api"
	"lightsieve/bit"
)

func TestFormat(t *testing.T) {
	for _, c := range []struct {
		c []api.Cell
		s string
	}{
		{nil, ""},
		{[]api.Cell{}, ""},
		{[]api.Cell{cell(1, 1, 1, 1)}, "1 1 ++\n"},
		{[]api.Cell{cell(-3, 0, 1, 0, -1)}, "-3 0 +.-\n"},
		{[]api.Cell{cell(-100, 100, -1)}, "-100 100 -\n"},
		{[]api.Cell{cell(0, 0, 0), cell(-10, -9, 1), cell(99, 100, -1)}, "0 0 .\n-10 -9 +\n99 100 -\n"},
		{[]api.Cell{cell(0, 24, filled(8, 1)...), cell(-24, -1, filled(8, -1)...), cell(0, 0, filled(8, 0)...)}, "0 24 ++++++++\n-24 -1 --------\n0 0 ........\n"},
		{slices.Repeat([]api.Cell{cell(-100, -100, filled(8, -1)...)}, 30), strings.Repeat("-100 -100 --------\n", 30)},
	} {
		if s := bit.Format(c.c); s != c.s {
			t.Errorf("Format(%v) = %q", c.c, s)
		}
		if p, line, e := bit.Parse(c.s); !sameCells(p, c.c) || line != 0 || e != api.OK {
			t.Errorf("Parse(%q) = %v, %d, %d", c.s, p, line, e)
		}
	}
}

func TestFormatOfNoCells(t *testing.T) {
	right := cell(0, 1, 1, 1)
	for _, wrong := range append(wrongCells(), cell(0, 1, 1), cell(0, 1, 1, 1, 1), cell(0, 1, filled(9, 1)...)) {
		for _, c := range [][]api.Cell{{right, wrong}, {wrong, right}, {right, right, wrong}} {
			if s := bit.Format(c); s != "" {
				t.Errorf("Format(%v) = %q", c, s)
			}
		}
	}
	for _, c := range [][]api.Cell{{{}}, {cell(1, 0, 1)}, {cell(0, 1, 2)}, {cell(0, 1)}, {cell(0, 1, filled(9, 0)...)}, {cell(-101, 1, 1)}, {cell(0, 101, 1)}, {cell(0, 1, 1), cell(0, 1, 1, 1)}, {cell(0, 1, filled(9, 0)...), cell(0, 1, filled(9, 0)...)}, {{}, {}}} {
		if s := bit.Format(c); s != "" {
			t.Errorf("Format(%v) = %q", c, s)
		}
	}
	for _, n := range []int{31, 32, 1000} {
		if s := bit.Format(slices.Repeat([]api.Cell{right}, n)); s != "" {
			t.Errorf("Format of %d cells = %q", n, s)
		}
	}
}

// P7.6: all bounds, all rows of up to three pixels, and all samples.
func TestParseOfFormat(t *testing.T) {
	for lo := -100; lo <= 100; lo++ {
		for hi := lo; hi <= 100; hi++ {
			checkRound(t, []api.Cell{cell(lo, hi, 1, -1, 0)})
		}
	}
	for pixels := 1; pixels <= 3; pixels++ {
		for _, row := range rowsOf(pixels) {
			checkRound(t, []api.Cell{cell(-7, 12, row...), cell(0, 0, row...)})
		}
	}
	for _, s := range samples() {
		checkRound(t, s.c)
	}
}

func checkRound(t *testing.T, c []api.Cell) {
	t.Helper()
	if p, line, e := bit.Parse(bit.Format(c)); !sameCells(p, c) || line != 0 || e != api.OK {
		t.Fatal("Parse of Format", c, p, line, e)
	}
}

func TestParseWrongLine(t *testing.T) {
	line := "0 1 ++\n"
	for _, c := range []struct {
		s    string
		line int
	}{
		{"\n", 0}, {" ", 0}, {"\n" + line, 0}, {line + "\n", 1}, {line + "\n" + line, 1}, {line + " ", 1}, {line + "x", 1}, {line + line + "\n\n", 2},
		{"0 1 ++", 0}, {line + "0 1 ++", 1}, {line + line + "0 1 +", 2}, {"0", 0}, {"0 1", 0}, {"0 1 ", 0}, {"0 1\n", 0}, {"0 1 \n", 0}, {"0\n", 0}, {"++\n", 0},
		{"00 1 ++\n", 0}, {"0 01 ++\n", 0}, {"-01 1 ++\n", 0}, {"-0 1 ++\n", 0}, {"0 -0 ++\n", 0}, {"-1 -0 ++\n", 0}, {"+0 1 ++\n", 0}, {"0 +1 ++\n", 0}, {"0 001 ++\n", 0}, {"0_0 1 ++\n", 0}, {"0 1_0 ++\n", 0}, {"0x0 1 ++\n", 0}, {"0 1. ++\n", 0}, {"0 1e1 ++\n", 0}, {"- 1 ++\n", 0}, {"--1 1 ++\n", 0}, {"a 1 ++\n", 0},
		{"1 0 ++\n", 0}, {"-1 -2 ++\n", 0}, {"-101 0 ++\n", 0}, {"0 101 ++\n", 0}, {"0 1000 ++\n", 0}, {"-1000 0 ++\n", 0}, {"0 18446744073709551617 ++\n", 0}, {"-18446744073709551616 1 ++\n", 0}, {"0 99999999999999999999999 ++\n", 0},
		{"0  1 ++\n", 0}, {" 0 1 ++\n", 0}, {"0 1  ++\n", 0}, {"0 1 ++ \n", 0}, {"0 1 + +\n", 0}, {"0 1 ++ ++\n", 0}, {"0\t1 ++\n", 0}, {"0 1\t++\n", 0}, {"0 1 ++\r\n", 0}, {"0 1 ++\x00\n", 0}, {"0,1 ++\n", 0},
		{"0 1 +*\n", 0}, {"0 1 +0\n", 0}, {"0 1 +1\n", 0}, {"0 1 +,\n", 0}, {"0 1 \u2212\n", 0}, {"0 1 +\uff0b\n", 0}, {"0 1 +\xff\n", 0}, {"0 1 \ufffd\n", 0}, {"\ufeff0 1 +\n", 0}, {"\uff10 1 +\n", 0},
		{"0 1 +++++++++\n", 0}, {"0 1 " + strings.Repeat("+", 1000) + "\n", 0}, {line + "0 1 +++++++++\n", 1},
		{line + "0 1 +\n", 1}, {line + "0 1 +++\n", 1}, {"0 1 +\n" + line, 1}, {line + line + "0 1 .\n" + line, 2}, {line + "0 1 +\n0 1 +\n", 1},
		{strings.Repeat(line, 31), 30}, {strings.Repeat(line, 30) + "\n", 30}, {strings.Repeat(line, 30) + "0", 30}, {strings.Repeat(line, 30) + "0 1 +\n", 30}, {strings.Repeat(line, 29) + "0 1 ++", 29}, {strings.Repeat(line, 100), 30},
		{line + "x\ny\n", 1}, {"x\n" + line, 0}, {line + "1 0 ++\n0 1 +\n", 1},
	} {
		if p, line, e := bit.Parse(c.s); len(p) != 0 || line != c.line || e != api.ErrSyntax {
			t.Errorf("Parse(%q) = %v, %d, %d", c.s, p, line, e)
		}
	}
}

func TestParseLong(t *testing.T) {
	line := "0 1 ++\n"
	for _, c := range []struct {
		s    string
		line int
		e    api.Errno
	}{
		{strings.Repeat("+", 65536), 0, api.ErrSyntax},
		{strings.Repeat(" ", 65536), 0, api.ErrSyntax},
		{strings.Repeat("\n", 65536), 0, api.ErrSyntax},
		{strings.Repeat("0 1 +++\n", 8192), 30, api.ErrSyntax},
		{line + strings.Repeat("+", 65536-len(line)), 1, api.ErrSyntax},
		{strings.Repeat("0 1 +++\n", 8192) + "\n", 0, api.ErrLong},
		{line + strings.Repeat("+", 65537-len(line)), 0, api.ErrLong},
		{strings.Repeat("x", 65537), 0, api.ErrLong},
		{strings.Repeat("\x00", 1000000), 0, api.ErrLong},
	} {
		if p, line, e := bit.Parse(c.s); len(p) != 0 || line != c.line || e != c.e {
			t.Errorf("Parse of %d bytes = %v, %d, %d", len(c.s), p, line, e)
		}
	}
}

// lineForm leaves it to firstWrong how great the numbers are, and how long the rows.
var lineForm = regexp.MustCompile(`^(0|-?[1-9][0-9]{0,2}) (0|-?[1-9][0-9]{0,2}) ([-.+]{1,8})\n$`)

// firstWrong is -1 for a right text.
func firstWrong(s string) int {
	pixels := 0
	for i, line := range strings.SplitAfter(s, "\n") {
		if line == "" {
			break
		}
		words := lineForm.FindStringSubmatch(line)
		if words == nil || i == 30 {
			return i
		}
		lo, _ := strconv.Atoi(words[1])
		hi, _ := strconv.Atoi(words[2])
		if i == 0 {
			pixels = len(words[3])
		}
		if lo < -100 || lo > hi || hi > 100 || len(words[3]) != pixels {
			return i
		}
	}
	return -1
}

func checkParse(t *testing.T, s string) {
	t.Helper()
	c, line, e := bit.Parse(s)
	if want := firstWrong(s); want >= 0 {
		if len(c) != 0 || line != want || e != api.ErrSyntax {
			t.Fatalf("Parse(%q) = %v, %d, %d", s, c, line, e)
		}
	} else if line != 0 || e != api.OK || bit.Format(c) != s {
		t.Fatalf("Parse(%q) = %v, %d, %d", s, c, line, e)
	}
}

func TestParseOfAllShortTexts(t *testing.T) {
	var check func(s string, left int)
	check = func(s string, left int) {
		checkParse(t, s)
		if left > 0 {
			for _, c := range "-01 +\n" {
				check(s+string(c), left-1)
			}
		}
	}
	check("", 7)
}

// Right texts with a byte less, another one, or one more.
func TestParseOfAlmostRightTexts(t *testing.T) {
	for _, s := range []string{
		"1 1 ++\n", "-100 100 +-.\n", "-10 -9 +\n99 100 -\n0 0 .\n", "0 24 ++++++++\n-24 -1 --------\n", "-1 0 +.\n0 1 .-\n", strings.Repeat("0 1 -\n", 30), strings.Repeat("0 1 -\n", 29),
	} {
		checkParse(t, s)
		for i := range len(s) + 1 {
			checkParse(t, s[:i])
			if i < len(s) {
				checkParse(t, s[:i]+s[i+1:])
			}
			for _, c := range []string{"-", "0", "1", "9", " ", "+", ".", "\n", "x", "\xff", "\u2212"} {
				checkParse(t, s[:i]+c+s[i:])
				if i < len(s) {
					checkParse(t, s[:i]+c+s[i+1:])
				}
			}
		}
	}
}
