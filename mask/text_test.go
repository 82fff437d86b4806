package mask_test

import (
	"regexp"
	"strings"
	"testing"

	"lightsieve/api"
	"lightsieve/mask"
)

func TestFormat(t *testing.T) {
	for _, c := range []struct {
		m api.Mask
		s string
	}{
		{api.Mask{{1, -1, 0}}, "+-.\n"},
		{api.Mask{{1, 1, 0}, {0, 1, 1}}, "++.\n.++\n"},
		{api.Mask{{-1}, {0}, {1}}, "-\n.\n+\n"},
		{full(6, 10, -1), strings.Repeat("----------\n", 6)},
	} {
		if s := mask.Format(c.m); s != c.s {
			t.Errorf("Format(%v) = %q", c.m, s)
		}
		if m, line, e := mask.Parse(c.s); !same(m, c.m) || line != 0 || e != api.OK {
			t.Errorf("Parse(%q) = %v, %d, %d", c.s, m, line, e)
		}
	}
	for _, m := range wrongMasks() {
		if s := mask.Format(m); s != "" {
			t.Errorf("Format of no mask: %q", s)
		}
	}
}

// P2.6.
func TestParseOfFormat(t *testing.T) {
	for _, m := range columnMasks() {
		if n, line, e := mask.Parse(mask.Format(m)); !same(n, m) || line != 0 || e != api.OK {
			t.Fatal("Parse of Format", m, n, line, e)
		}
	}
}

func TestParseWrongLine(t *testing.T) {
	row := strings.Repeat("+", 10)
	for _, c := range []struct {
		s    string
		line int
	}{
		{"", 0}, {"\n", 0}, {"\n+\n", 0}, {" ", 0}, {" \n", 0}, {"x\n", 0}, {"1\n", 0}, {"0\n", 0}, {"*\n", 0}, {",\n", 0},
		{"+", 0}, {"+-.", 0}, {"+\n-", 1}, {"+-\n.+", 1}, {"+\n+\n+\n+\n+\n+", 5}, {"+\n\n", 1}, {"+\n\n+\n", 1}, {"++\n++\n\n", 2},
		{"+-\n+\n", 1}, {"+\n+-\n", 1}, {"+-\n+-\n+\n", 2}, {"+-\n+-\n+-.\n+-\n", 2}, {"+-\n+", 1},
		{"+ -\n", 0}, {" +\n", 0}, {"+ \n", 0}, {"+\r\n", 0}, {"+\n+ \n", 1}, {"+\t\n", 0}, {"+\x00\n", 0}, {"+\n-\x00\n", 1},
		{"\u2212\n", 0}, {"+\u2212\n", 0}, {"\uff0b\n", 0}, {"\u00b7\n", 0}, {"\xff\n", 0}, {"+\xff\n", 0}, {"+\n\xc2\n", 1}, {"\ufffd\n", 0}, {"\ufeff+\n", 0},
		{row + "+\n", 0}, {row + "+", 0}, {row + "\n" + row + ".\n", 1}, {row + row + "\n", 0}, {row + "\n" + row, 1},
		{strings.Repeat("+\n", 7), 6}, {strings.Repeat("+\n", 6) + "\n", 6}, {strings.Repeat("+\n", 6) + "+", 6}, {strings.Repeat("+\n", 6) + "x\n", 6}, {strings.Repeat("+\n", 40), 6}, {strings.Repeat(row+"\n", 7), 6},
		{"+\nx\ny\n", 1}, {"x\n+-\n+\n", 0}, {"+-\n+x\n+\n", 1},
	} {
		if m, line, e := mask.Parse(c.s); len(m) != 0 || line != c.line || e != api.ErrSyntax {
			t.Errorf("Parse(%q) = %v, %d, %d", c.s, m, line, e)
		}
	}
}

func TestParseLong(t *testing.T) {
	for _, c := range []struct {
		s    string
		line int
		e    api.Errno
	}{
		{strings.Repeat("+", 65536), 0, api.ErrSyntax},
		{strings.Repeat("+\n", 32768), 6, api.ErrSyntax},
		{strings.Repeat("\n", 65536), 0, api.ErrSyntax},
		{"+\n" + strings.Repeat("+", 65534), 1, api.ErrSyntax},
		{strings.Repeat("+", 65537), 0, api.ErrLong},
		{strings.Repeat("+\n", 32768) + "+", 0, api.ErrLong},
		{"+\n" + strings.Repeat("x", 65535), 0, api.ErrLong},
		{strings.Repeat("\x00", 1000000), 0, api.ErrLong},
	} {
		if m, line, e := mask.Parse(c.s); len(m) != 0 || line != c.line || e != c.e {
			t.Errorf("Parse of %d bytes = %v, %d, %d", len(c.s), m, line, e)
		}
	}
}

// All short texts of these bytes, against an expression for a line.
func TestParseOfAllShortTexts(t *testing.T) {
	line := regexp.MustCompile(`^[-.+]+\n$`)
	var check func(s string, left int)
	check = func(s string, left int) {
		m, at, e := mask.Parse(s)
		if want := firstWrong(line, s); want >= 0 {
			if len(m) != 0 || at != want || e != api.ErrSyntax {
				t.Fatalf("Parse(%q) = %v, %d, %d", s, m, at, e)
			}
		} else if at != 0 || e != api.OK || mask.Format(m) != s {
			t.Fatalf("Parse(%q) = %v, %d, %d", s, m, at, e)
		}
		if left > 0 {
			for _, c := range "+-. \n" {
				check(s+string(c), left-1)
			}
		}
	}
	check("", 7)
}

// firstWrong is -1 for a right text; its rows and pixels are within their limits.
func firstWrong(line *regexp.Regexp, s string) int {
	if s == "" {
		return 0
	}
	lines := strings.SplitAfter(s, "\n")
	if lines[len(lines)-1] == "" {
		lines = lines[:len(lines)-1]
	}
	for i, l := range lines {
		if !line.MatchString(l) || len(l) != len(lines[0]) {
			return i
		}
	}
	return -1
}
