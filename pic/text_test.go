package pic_test

import (
	"regexp"
	"strings"
	"testing"

	"lightsieve/api"
	"lightsieve/pic"
)

func TestFormat(t *testing.T) {
	for _, c := range []struct {
		p api.Picture
		s string
	}{
		{picture(3, 2, 1, 2, 3, 4, -5, 6), "1 2 3\n4 -5 6\n"},
		{picture(2, 3, 1, 2, 3, 4, -5, 6), "1 2\n3 4\n-5 6\n"},
		{picture(1, 1, 0), "0\n"},
		{picture(1, 2, top, -top), "1000000\n-1000000\n"},
		{picture(2, 1, -10, 100), "-10 100\n"},
	} {
		if s := pic.Format(c.p); s != c.s {
			t.Errorf("Format(%v) = %q", c.p, s)
		}
		if p, line, e := pic.Parse(c.s); !same(p, c.p) || line != 0 || e != api.OK {
			t.Errorf("Parse(%q) = %v, %d, %d", c.s, p, line, e)
		}
	}
	for _, p := range wrongPictures() {
		if s := pic.Format(p); s != "" {
			t.Errorf("Format of no picture: %q", s)
		}
	}
}

// P1.6.
func TestParseOfFormat(t *testing.T) {
	pictures := []api.Picture{picture(16, 16, filled(256, -top)...), picture(16, 16, filled(256, top)...), picture(1, 16, filled(16, 0)...), picture(16, 1, filled(16, 0)...)}
	var s numbers
	for range 200 {
		pictures = append(pictures, s.picture([]int{1, 10, 1000, top}[s.below(4)]))
	}
	for _, p := range pictures {
		if q, line, e := pic.Parse(pic.Format(p)); !same(q, p) || line != 0 || e != api.OK {
			t.Fatal("Parse of Format", p, q, line, e)
		}
	}
}

func TestParseWrongLine(t *testing.T) {
	row := strings.Repeat("7 ", 15) + "7"
	for _, c := range []struct {
		s    string
		line int
	}{
		{"", 0}, {"\n", 0}, {" ", 0}, {" \n", 0}, {"\n1\n", 0}, {"x\n", 0}, {"1,2\n", 0},
		{"1", 0}, {"1 2", 0}, {"1\n2", 1}, {"1 2\n3 4", 1}, {"1\n2\n-", 2}, {"1\n2\n3\n4", 3},
		{"1 2\n3\n", 1}, {"1\n2 3\n", 1}, {"1 2\n3 4 5\n", 1}, {"1 2\n3 4\n5\n6 7\n", 2},
		{"1\n\n", 1}, {"1\n\n2\n", 1}, {"1 2\n3 4\n\n", 2}, {"1\n \n", 1},
		{"-0\n", 0}, {"1\n-0\n", 1}, {"+1\n", 0}, {"01\n", 0}, {"00\n", 0}, {"-01\n", 0}, {"-\n", 0}, {"--1\n", 0}, {"- 1\n", 0},
		{"1_0\n", 0}, {"0x1\n", 0}, {"1.0\n", 0}, {"1e3\n", 0}, {"1-\n", 0}, {"\u0661\n", 0}, {"\xff\n", 0}, {"1\x00\n", 0},
		{" 1\n", 0}, {"1 \n", 0}, {"1  2\n", 0}, {"1\t2\n", 0}, {"1\r\n", 0}, {"1\n2 \n", 1}, {"1\n 2\n", 1}, {"1\u00a02\n", 0},
		{"1000001\n", 0}, {"-1000001\n", 0}, {"1000000\n1000001\n", 1}, {"1 2\n3 -1000001\n", 1}, {"1000001", 0},
		{"9223372036854775808\n", 0}, {"-9223372036854775808\n", 0}, {"1\n99999999999999999999999\n", 1}, {"18446744073709551617\n", 0},
		{row + " 7\n", 0}, {row + "\n" + row + " 7\n", 1}, {row + " 7", 0},
		{strings.Repeat("1\n", 17), 16}, {strings.Repeat("1\n", 16) + "\n", 16}, {strings.Repeat("1\n", 16) + "1", 16}, {strings.Repeat("1\n", 16) + "x\n", 16},
		{strings.Repeat("1\n", 40), 16}, {strings.Repeat(row+"\n", 17), 16}, {strings.Repeat("1\n", 15) + "1", 15},
		{"1\nx\ny\n", 1}, {"x\n1 2\n3\n", 0},
	} {
		if p, line, e := pic.Parse(c.s); !isZero(p) || line != c.line || e != api.ErrSyntax {
			t.Errorf("Parse(%q) = %v, %d, %d", c.s, p, line, e)
		}
	}
}

func TestParseLong(t *testing.T) {
	for _, c := range []struct {
		s    string
		line int
		e    api.Errno
	}{
		{strings.Repeat("1", 65536), 0, api.ErrSyntax},
		{strings.Repeat("1\n", 32768), 16, api.ErrSyntax},
		{strings.Repeat(" ", 65536), 0, api.ErrSyntax},
		{strings.Repeat("\n", 65536), 0, api.ErrSyntax},
		{"1\n" + strings.Repeat("1", 65534), 1, api.ErrSyntax},
		{strings.Repeat("1", 65537), 0, api.ErrLong},
		{strings.Repeat("1\n", 32768) + "1", 0, api.ErrLong},
		{"1\n" + strings.Repeat("1", 65535), 0, api.ErrLong},
		{strings.Repeat("\x00", 1000000), 0, api.ErrLong},
	} {
		if p, line, e := pic.Parse(c.s); !isZero(p) || line != c.line || e != c.e {
			t.Errorf("Parse of %d bytes = %v, %d, %d", len(c.s), p, line, e)
		}
	}
}

// All short texts of these bytes, against an expression for a line.
func TestParseOfAllShortTexts(t *testing.T) {
	line := regexp.MustCompile(`^(0|-?[1-9][0-9]*)( (0|-?[1-9][0-9]*))*\n$`)
	var check func(s string, left int)
	check = func(s string, left int) {
		p, at, e := pic.Parse(s)
		if want := firstWrong(line, s); want >= 0 {
			if !isZero(p) || at != want || e != api.ErrSyntax {
				t.Fatalf("Parse(%q) = %v, %d, %d", s, p, at, e)
			}
		} else if at != 0 || e != api.OK || pic.Format(p) != s {
			t.Fatalf("Parse(%q) = %v, %d, %d", s, p, at, e)
		}
		if left > 0 {
			for _, c := range "01- \n" {
				check(s+string(c), left-1)
			}
		}
	}
	check("", 7)
}

// firstWrong is -1 for a right text; its numbers and sides are within their limits.
func firstWrong(line *regexp.Regexp, s string) int {
	if s == "" {
		return 0
	}
	lines := strings.SplitAfter(s, "\n")
	if lines[len(lines)-1] == "" {
		lines = lines[:len(lines)-1]
	}
	for i, l := range lines {
		if !line.MatchString(l) || strings.Count(l, " ") != strings.Count(lines[0], " ") {
			return i
		}
	}
	return -1
}
