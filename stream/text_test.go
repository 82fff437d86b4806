package stream_test

import (
	"regexp"
	"slices"
	"strconv"
	"strings"
	"testing"

	"lightsieve/api"
	"lightsieve/stream"
)

func TestFormat(t *testing.T) {
	for _, c := range []struct {
		m api.Mask
		f []api.Frame
		s string
	}{
		{three(), []api.Frame{key(0, 0, 0)}, "key 0 0 0\n"},
		{three(), []api.Frame{key()}, "key\n"},
		{three(), []api.Frame{{Key: true, Values: []int{}}, {Values: []int{}}}, "key\nread\n"},
		{three(), []api.Frame{key(0, 0, 0), read(5, 5), read(0, 2)}, "key 0 0 0\nread 5 5\nread 0 2\n"},
		{three(), []api.Frame{key(1000, -1000, -1), read(), key(), read(1000000, -1000000), key(10, 0, -10)}, "key 1000 -1000 -1\nread\nkey\nread 1000000 -1000000\nkey 10 0 -10\n"},
		{api.Mask{{1}}, []api.Frame{key(7), read(-7)}, "key 7\nread -7\n"},
		{api.Mask{{1, 1}}, []api.Frame{key(), read(1), key(1, 2)}, "key\nread 1\nkey 1 2\n"},
		{slices.Repeat(api.Mask{filled(10, -1)}, 6), []api.Frame{key(filled(10, -1000)...), read(filled(6, -1000000)...)}, "key" + strings.Repeat(" -1000", 10) + "\nread" + strings.Repeat(" -1000000", 6) + "\n"},
		{slices.Repeat(api.Mask{filled(10, -1)}, 6), append([]api.Frame{key()}, slices.Repeat([]api.Frame{read(filled(6, -1000000)...)}, 59)...), "key\n" + strings.Repeat("read"+strings.Repeat(" -1000000", 6)+"\n", 59)},
		{three(), slices.Repeat([]api.Frame{key()}, 60), strings.Repeat("key\n", 60)},
	} {
		if s := stream.Format(c.m, c.f); s != c.s {
			t.Errorf("Format(%v) = %q", c.f, s)
		}
		if f, line, e := stream.Parse(c.m, c.s); !sameFrames(f, c.f) || line != 0 || e != api.OK {
			t.Errorf("Parse(%q) = %v, %d, %d", c.s, f, line, e)
		}
	}
}

func TestFormatOfNoFrames(t *testing.T) {
	right := key(0, 0, 0)
	for _, f := range [][]api.Frame{nil, {}, {read()}, {read(0, 0)}, {read(0, 0), right}, slices.Repeat([]api.Frame{right}, 61)} {
		if s := stream.Format(three(), f); s != "" {
			t.Errorf("Format(%v) = %q", f, s)
		}
	}
	for _, wrong := range wrongFrames() {
		for _, f := range [][]api.Frame{{wrong}, {right, wrong}, {right, wrong, right}, {key(), wrong}} {
			if s := stream.Format(three(), f); s != "" {
				t.Errorf("Format(%v) = %q", f, s)
			}
		}
	}
	for _, m := range wrongMasks() {
		for _, f := range [][]api.Frame{{right}, {key()}, {right, read(0, 0)}} {
			if s := stream.Format(m, f); s != "" {
				t.Errorf("Format(%v, %v) = %q", m, f, s)
			}
		}
	}
}

// P8.6
func TestParseOfFormat(t *testing.T) {
	for n := -1000; n <= 1000; n++ {
		checkRound(t, three(), []api.Frame{key(n, 0, -n), read(1000*n, n)})
	}
	for _, s := range samples() {
		checkRound(t, s.m, s.f)
		for every := range len(s.p) {
			checkRound(t, s.m, encoded(s.m, s.p, every+1))
		}
	}
}

func checkRound(t *testing.T, m api.Mask, f []api.Frame) {
	t.Helper()
	if g, line, e := stream.Parse(m, stream.Format(m, f)); !sameFrames(f, g) || line != 0 || e != api.OK {
		t.Fatal("Parse of Format", f, g, line, e)
	}
}

func TestParseWrongLine(t *testing.T) {
	first, line := "key 0 0 0\n", "read 5 5\n"
	for _, c := range []struct {
		s    string
		line int
	}{
		{"", 0}, {"\n", 0}, {" ", 0}, {"\n" + first, 0}, {first + "\n", 1}, {first + "\n" + line, 1}, {first + line + "\n", 2}, {first + line + " \n", 2}, {first + line + "x", 2},
		{"key 0 0 0", 0}, {"key", 0}, {first + "read 5 5", 1}, {first + "read", 1}, {first + "key", 1}, {first + line + line + "key 0 0 0", 3}, {"k", 0}, {first + "r", 1},
		{"read\n", 0}, {"read 5 5\n", 0}, {"read 0 0 0\n", 0}, {line + first, 0}, {"read\n" + first, 0},
		{"Key 0 0 0\n", 0}, {"KEY\n", 0}, {"keys 0 0 0\n", 0}, {"ke 0 0 0\n", 0}, {"lost\n", 0}, {"0 0 0\n", 0}, {first + "lost\n", 1}, {first + "Read 5 5\n", 1}, {first + "reads 5 5\n", 1}, {first + "rea 5 5\n", 1}, {first + "5 5\n", 1}, {"true 0 0 0\n", 0},
		{"key0 0 0\n", 0}, {"key 0 0 0 key\n", 0}, {"key key 0 0\n", 0}, {first + "read read\n", 1}, {first + "read 5 5 read 5 5\n", 1}, {first + "key read 5 5\n", 1},
		{"key 0 0\n", 0}, {"key 0\n", 0}, {"key 0 0 0 0\n", 0}, {first + "read 5\n", 1}, {first + "read 5 5 5\n", 1}, {first + "key 5 5\n", 1}, {first + "read 0 0 0\n" + first, 1},
		{"key 00 0 0\n", 0}, {"key 0 00 0\n", 0}, {"key 0 0 00\n", 0}, {"key 01 0 0\n", 0}, {"key 0 0 -01\n", 0}, {"key -0 0 0\n", 0}, {"key 0 -0 0\n", 0}, {"key 0 0 -0\n", 0}, {"key +0 0 0\n", 0}, {"key +1 0 0\n", 0}, {"key 0 0 +1\n", 0}, {first + "read 05 5\n", 1}, {first + "read 5 -0\n", 1}, {first + "read +5 5\n", 1}, {first + "read 5 005\n", 1},
		{"key 0_0 0 0\n", 0}, {"key 1_0 0 0\n", 0}, {"key 0x0 0 0\n", 0}, {"key 0. 0 0\n", 0}, {"key 1e1 0 0\n", 0}, {"key - 0 0\n", 0}, {"key --1 0 0\n", 0}, {"key 1- 0 0\n", 0}, {"key a 0 0\n", 0}, {"key 0,0,0\n", 0},
		{"key 1001 0 0\n", 0}, {"key 0 0 -1001\n", 0}, {first + "read 1000001 0\n", 1}, {first + "read 0 -1000001\n", 1}, {first + "key 0 1001 0\n", 1}, {"key 18446744073709551616 0 0\n", 0}, {first + "read -18446744073709551616 0\n", 1}, {"key 99999999999999999999999999 0 0\n", 0},
		{"key  0 0 0\n", 0}, {" key 0 0 0\n", 0}, {"key 0  0 0\n", 0}, {"key 0 0  0\n", 0}, {"key 0 0 0 \n", 0}, {"key \n", 0}, {" key\n", 0}, {"key  \n", 0}, {first + "read \n", 1}, {first + " read\n", 1}, {first + "read 5 5 \n", 1}, {first + " read 5 5\n", 1}, {first + "read  5 5\n", 1}, {first + "read 5  5\n", 1},
		{"key\t0 0 0\n", 0}, {"key 0\t0 0\n", 0}, {"key 0 0 0\r\n", 0}, {"key\r\n", 0}, {"key 0 0 0\x00\n", 0}, {"\ufeffkey 0 0 0\n", 0}, {"key\u00a00 0 0\n", 0}, {"key 0 0 \uff10\n", 0}, {"key 0 0 \u22121\n", 0}, {"key\xff\n", 0},
		{strings.Repeat(first, 61), 60}, {strings.Repeat(first, 60) + "\n", 60}, {strings.Repeat(first, 60) + "k", 60}, {strings.Repeat("key\n", 61), 60}, {first + strings.Repeat(line, 60), 60}, {strings.Repeat(first, 59) + "key", 59}, {strings.Repeat(first, 59) + "key 0 0 0", 59}, {strings.Repeat(first, 100), 60}, {strings.Repeat(first, 60) + "x\n", 60},
		{first + "x\ny\n", 1}, {"x\n" + first, 0}, {first + line + "read 1\nread\nx\n", 2},
	} {
		if f, line, e := stream.Parse(three(), c.s); len(f) != 0 || line != c.line || e != api.ErrSyntax {
			t.Errorf("Parse(%q) = %v, %d, %d", c.s, f, line, e)
		}
	}
}

func TestParseLong(t *testing.T) {
	line := "key 0 0 0\n"
	for _, c := range []struct {
		s    string
		line int
		e    api.Errno
	}{
		{strings.Repeat("k", 65536), 0, api.ErrSyntax},
		{strings.Repeat(" ", 65536), 0, api.ErrSyntax},
		{strings.Repeat("\n", 65536), 0, api.ErrSyntax},
		{"key" + strings.Repeat(" 0", 32766) + "\n", 0, api.ErrSyntax},
		{strings.Repeat("key\n", 16384), 60, api.ErrSyntax},
		{line + strings.Repeat("r", 65536-len(line)), 1, api.ErrSyntax},
		{strings.Repeat("key\n", 16384) + "\n", 0, api.ErrLong},
		{line + strings.Repeat("r", 65537-len(line)), 0, api.ErrLong},
		{strings.Repeat("x", 65537), 0, api.ErrLong},
		{strings.Repeat("\x00", 1000000), 0, api.ErrLong},
	} {
		if f, line, e := stream.Parse(three(), c.s); len(f) != 0 || line != c.line || e != c.e {
			t.Errorf("Parse of %d bytes = %v, %d, %d", len(c.s), f, line, e)
		}
		for _, m := range wrongMasks() {
			if f, line, e := stream.Parse(m, c.s); len(f) != 0 || line != 0 || e != api.ErrInvalid {
				t.Errorf("Parse of %d bytes with %v = %v, %d, %d", len(c.s), m, f, line, e)
			}
		}
	}
}

func TestParseWithNoMask(t *testing.T) {
	for _, m := range wrongMasks() {
		for _, s := range []string{"", "key\n", "key 0 0 0\n", "x", "key 0 0 0\nread 5 5\n"} {
			if f, line, e := stream.Parse(m, s); len(f) != 0 || line != 0 || e != api.ErrInvalid {
				t.Errorf("Parse(%v, %q) = %v, %d, %d", m, s, f, line, e)
			}
		}
	}
}

// lineForm leaves it to firstWrong how many numbers there are, and how great.
var lineForm = regexp.MustCompile(`^(key|read)(( (0|-?[1-9][0-9]{0,6}))*)\n$`)

// firstWrong is -1 for a right text.
func firstWrong(m api.Mask, s string) int {
	for i, line := range strings.SplitAfter(s, "\n") {
		if line == "" && i > 0 {
			break
		}
		words := lineForm.FindStringSubmatch(line)
		if words == nil || i == 60 || i == 0 && words[1] != "key" {
			return i
		}
		length, most := len(m), 1000000
		if words[1] == "key" {
			length, most = len(m[0]), 1000
		}
		values := strings.Fields(words[2])
		if len(values) != 0 && len(values) != length {
			return i
		}
		for _, word := range values {
			if n, _ := strconv.Atoi(word); n < -most || n > most {
				return i
			}
		}
	}
	return -1
}

func checkParse(t *testing.T, m api.Mask, s string) {
	t.Helper()
	f, line, e := stream.Parse(m, s)
	if want := firstWrong(m, s); want >= 0 {
		if len(f) != 0 || line != want || e != api.ErrSyntax {
			t.Fatalf("Parse(%q) = %v, %d, %d", s, f, line, e)
		}
	} else if line != 0 || e != api.OK || stream.Format(m, f) != s {
		t.Fatalf("Parse(%q) = %v, %d, %d", s, f, line, e)
	}
}

// All texts of a few pieces, for a mask with one number in each frame, and for one with two in a key.
func TestParseOfAllShortTexts(t *testing.T) {
	for _, m := range []api.Mask{{{1}}, {{1, -1}}} {
		var check func(s string, left int)
		check = func(s string, left int) {
			checkParse(t, m, s)
			if left > 0 {
				for _, piece := range []string{"key", "read", " ", "\n", "0", "1", "-"} {
					check(s+piece, left-1)
				}
			}
		}
		check("", 6)
		check("key\n", 5)
		check("key 0", 5)
	}
}

// Right texts with a byte less, another one, or one more.
func TestParseOfAlmostRightTexts(t *testing.T) {
	for _, s := range []string{
		"key 0 0 0\n", "key\n", "key 1000 -1000 10\nread 1000000 -1000000\n", "key -1 2 -3\nread\nread 0 1\nkey\nkey 7 8 9\n", "key\nread 10 -9\n", strings.Repeat("key\n", 60), strings.Repeat("key\n", 59),
	} {
		checkParse(t, three(), s)
		for i := range len(s) + 1 {
			checkParse(t, three(), s[:i])
			if i < len(s) {
				checkParse(t, three(), s[:i]+s[i+1:])
			}
			for _, c := range []string{"-", "0", "1", "9", " ", "+", "\n", "k", "r", "e", "\n0", "key\n", "read\n", "\xff", "\u2212"} {
				checkParse(t, three(), s[:i]+c+s[i:])
				if i < len(s) {
					checkParse(t, three(), s[:i]+c+s[i+1:])
				}
			}
		}
	}
}
