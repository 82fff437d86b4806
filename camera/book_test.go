package camera_test

import (
	"fmt"
	"regexp"
	"slices"
	"strconv"
	"strings"
	"testing"

	"lightsieve/api"
	"lightsieve/camera"
)

// linesOf are the lines of right texts.
func linesOf(texts ...string) []api.Line {
	var all []api.Line
	for i, sum := range sums(texts...) {
		all = append(all, api.Line{Number: i, Text: texts[i], Sum: sum})
	}
	return all
}

var bookLine = regexp.MustCompile(`^(0|[1-9][0-9]*) ([0-9a-f]{16}) ([!-~]|[!-~][ -~]{0,198}[!-~])$`)

// readBook reads a book by the words of the document.
func readBook(book string) (l []api.Line, torn bool, e api.Errno) {
	if len(book) > 600000 {
		return nil, false, api.ErrLong
	}
	parts := strings.Split(book, "\n")
	var read []string
	for i, part := range parts[:len(parts)-1] {
		found := bookLine.FindStringSubmatch(part)
		if found == nil || found[1] != strconv.Itoa(i) {
			return linesOf(read...), false, api.ErrSum
		}
		read = append(read, found[3])
		if found[2] != fmt.Sprintf("%016x", sums(read...)[i]) {
			return linesOf(read[:i]...), false, api.ErrSum
		}
		if i == 2000 {
			return nil, false, api.ErrLimit
		}
	}
	return linesOf(read...), parts[len(parts)-1] != "", api.OK
}

func checkLines(t *testing.T, book string) {
	t.Helper()
	want, wantTorn, wantError := readBook(book)
	l, torn, e := camera.Lines(book)
	if !slices.Equal(l, want) || torn != wantTorn || e != wantError {
		t.Fatalf("Lines of %.3000q: %v %t, error %d, want %v %t, %d", book, l, torn, e, want, wantTorn, wantError)
	}
}

// bookLines are what a camera was told that refused none of it.
func bookLines() []string {
	return []string{
		"row ++.", "row .++", "see 5,2,9", "order", "least 1,1", "sparsest 1,1", "known", "key 0,0,0", "trust 1", "read 5,5", "told 1", "lost", "told 2",
		"test 1,2,3 3,5", "test 1,0,0 1,0", "faults", "clear", "cut 0", "row ---", "row +.-", "cut 1", "cut 0", "cut 0", "row +-+-", "key 1,-2,3,-1000", "read 9", "told 1",
	}
}

func TestSumsOfABook(t *testing.T) {
	// These sums were worked out from the chapter's words, outside of this program.
	want := "0 3515b5b4ba9e3419 row ++.\n1 a85a2a7157170322 row .++\n2 e6cb61c1a804be73 see 5,2,9\n3 75e0896b1098bddc order\n"
	x := done(t, "row ++.", "row .++", "see 5,2,9", "order")
	if x.Book() != want {
		t.Errorf("the book is %q", x.Book())
	}
	if got := bookOf("row ++.", "row .++", "see 5,2,9", "order"); got != want {
		t.Errorf("the test's book is %q", got)
	}
	l, torn, e := camera.Lines(want)
	if e != api.OK || torn || len(l) != 4 || l[2] != (api.Line{Number: 2, Text: "see 5,2,9", Sum: 0xe6cb61c1a804be73}) {
		t.Error("Lines returns", l, torn, e)
	}
}

// A sum has its zeros in front.
func TestSmallSums(t *testing.T) {
	found := 0
	for first := range 11 {
		for second := range 11 {
			x := done(t, "trust "+strconv.Itoa(first), "trust "+strconv.Itoa(second))
			if x.Book() != bookOf(texts(x.Book())...) {
				t.Errorf("the book is %q", x.Book())
			}
			checkLines(t, x.Book())
			if strings.Contains(x.Book(), "1 0") {
				found++
			}
		}
	}
	if found == 0 {
		t.Error("no sum begins with a zero")
	}
}

func TestEmptyBook(t *testing.T) {
	l, torn, e := camera.Lines("")
	x, n, f := camera.Replay("")
	if len(l) > 0 || torn || e != api.OK || n != 0 || f != api.OK || x == nil || state(x) != state(camera.New()) {
		t.Error("an empty book:", l, torn, e, n, f)
	}
	replies, e := camera.Replies("")
	masks, f := camera.Masks("")
	same, g := camera.Parting("", "")
	if len(replies) > 0 || len(masks) > 0 || same != 0 || e != api.OK || f != api.OK || g != api.OK {
		t.Error("an empty book:", replies, e, masks, f, same, g)
	}
	does(t, x, "row +")
}

// P10.5 and P9: a book that is cut at any byte is the camera after its whole lines.
func TestTornBooks(t *testing.T) {
	x := done(t, bookLines()...)
	book := x.Book()
	if book != bookOf(bookLines()...) {
		t.Fatalf("the book is %q", book)
	}
	for at := range len(book) + 1 {
		whole := strings.Count(book[:at], "\n")
		kept := bookLines()[:whole]
		y := camera.New()
		var replies []string
		var masks []api.Mask
		for _, line := range kept {
			reply, e := y.Do(line)
			if e != api.OK {
				t.Fatal(line, e)
			}
			replies = append(replies, reply)
			if first := strings.Split(line, " ")[0]; first == "row" || first == "cut" {
				masks = append(masks, y.Mask())
			}
		}
		torn := at > 0 && book[at-1] != '\n'
		checkBook(t, book[:at], kept, torn, y, replies, masks)
	}
}

func checkBook(t *testing.T, book string, kept []string, torn bool, x *camera.Camera, replies []string, masks []api.Mask) {
	t.Helper()
	checkLines(t, book)
	l, isTorn, e := camera.Lines(book)
	if e != api.OK || isTorn != torn || !slices.Equal(l, linesOf(kept...)) {
		t.Fatalf("Lines of %q: %v %t, error %d", book, l, isTorn, e)
	}
	y, n, e := camera.Replay(book)
	if e != api.OK || n != len(kept) || state(y) != state(x) {
		t.Fatalf("Replay of %q: %d lines, error %d", book, n, e)
	}
	said, e := camera.Replies(book)
	if e != api.OK || !slices.Equal(said, replies) {
		t.Fatalf("Replies of %q: %q, error %d, want %q", book, said, e, replies)
	}
	had, e := camera.Masks(book)
	if e != api.OK || fmt.Sprint(had) != fmt.Sprint(masks) {
		t.Fatalf("Masks of %q: %v, error %d, want %v", book, had, e, masks)
	}
	for _, m := range had {
		if len(m) == 0 && m != nil {
			t.Fatal("a mask without rows is not nil")
		}
	}
}

// The books of sessions make their cameras again, from each whole line on.
func TestBooksOfSessions(t *testing.T) {
	s := numbers(99)
	for range 25 {
		x := camera.New()
		states := []string{state(x)}
		for _, line := range s.session(80) {
			if _, e := x.Do(line); e == api.OK {
				states = append(states, state(x))
			}
		}
		whole := strings.SplitAfter(x.Book(), "\n")
		for n := range whole {
			book := strings.Join(whole[:n], "")
			y, lines, e := camera.Replay(book + "torn"[:n%5])
			if e != api.OK || lines != n || state(y) != states[n] {
				t.Fatalf("Replay of %q: %d lines, error %d", book, lines, e)
			}
		}
		replies, e := camera.Replies(x.Book())
		if e != api.OK || len(replies) != len(states)-1 {
			t.Error("Replies", replies, e)
		}
	}
}

// A camera that was replayed goes on like the first one.
func TestReplayGoesOn(t *testing.T) {
	s := numbers(5)
	for range 10 {
		x := camera.New()
		lines := s.session(120)
		for _, line := range lines[:60] {
			x.Do(line)
		}
		y, _, e := camera.Replay(x.Book() + "0 ")
		if e != api.OK {
			t.Fatal("Replay:", e)
		}
		for _, line := range lines[60:] {
			reply, e := x.Do(line)
			again, f := y.Do(line)
			if reply != again || e != f {
				t.Fatalf("%q: %q, error %d, and replayed %q, error %d", line, reply, e, again, f)
			}
		}
		if state(x) != state(y) {
			t.Error("the cameras part")
		}
	}
}

// wrongBookLines are the third line of a book behind the texts a and b, wrong in one thing.
func wrongBookLines() []string {
	right := func(text string) string { return strings.Split(bookOf("a", "b", text), "\n")[2] }
	line := right("trust 1")
	sum := line[2:18]
	another := map[bool]string{true: "1", false: "0"}[sum[15] == '0']
	all := []string{
		"", " ", "2", "2 ", "x", "trust 1", "2 trust 1", "2 " + sum, "2 " + sum + " ", sum + " trust 1",
		"1" + line[1:], "3" + line[1:], "02" + line[1:], "+2" + line[1:], "-2" + line[1:], " " + line, "20" + line[1:], "two" + line[1:], line[1:], "2.0" + line[1:], "0x2" + line[1:],
		"2  " + line[2:], "2 " + sum + "  trust 1", "2\t" + line[2:], "2 " + sum + "\ttrust 1", "2" + line[2:], "2 " + sum + "trust 1",
		"2 " + sum[1:] + " trust 1", "2 0" + sum + " trust 1", "2 " + sum[:15] + " trust 1", "2 " + sum + "0 trust 1", "2 0x" + sum[2:] + " trust 1", "2 " + sum[:15] + another + " trust 1", "2 " + another + sum[1:] + " trust 1",
		"2 " + strings.ToUpper(sum) + " trust 1", "2 0000000000000000 trust 1", "2 " + sum + " trust 2", "2 " + sum + " trust", "2 " + sum + " Trust 1", "2 " + sum + " trust 1 ",
		line + " ", line + "\r", line + "\x00", line + "1", " " + line,
		strings.Split(bookOf("a", "trust 1"), "\n")[1], strings.Split(bookOf("a", "c", "trust 1"), "\n")[2], strings.Split(bookOf("trust 1"), "\n")[0], "2 " + strings.Split(bookOf("trust 1"), "\n")[0][2:],
	}
	// The sums of these are right, and their texts are none.
	for _, text := range []string{"", " ", " a", "a ", " a ", "  ", "a\x1f", "\x7f", "a\x7fa", "a\x80", "\xff", "é", "\x00", "a\tb", "a\rb", "a\r", strings.Repeat("a", 201), strings.Repeat("a", 1000), strings.Repeat(" ", 200)} {
		all = append(all, right(text))
	}
	return all
}

func TestWrongLineOfABook(t *testing.T) {
	start := bookOf("a", "b")
	for _, line := range wrongBookLines() {
		for _, rest := range []string{"", "3 ", "\n", bookOf("a")} {
			book := start + line + "\n" + rest
			l, torn, e := camera.Lines(book)
			if e != api.ErrSum || torn || !slices.Equal(l, linesOf("a", "b")) {
				t.Errorf("Lines of %q: %v %t, error %d", book, l, torn, e)
			}
			checkLines(t, book)
			checkReplayError(t, book, 0, api.ErrSum)
		}
		// What is torn is not asked.
		l, torn, e := camera.Lines(start + line)
		if e != api.OK || torn != (line != "") || !slices.Equal(l, linesOf("a", "b")) {
			t.Errorf("Lines of a book torn behind %q: %v %t, error %d", line, l, torn, e)
		}
	}
}

// TEXT may be anything of 1 to 200 bytes from 32 to 126 without blanks at its ends.
func TestTextsOfABook(t *testing.T) {
	all := []string{"a", "!", "~", "0", "a b", "a  b", "a   b", strings.Repeat("a", 199), strings.Repeat("a", 200), "a" + strings.Repeat(" ", 198) + "b", "row +", "0 0000000000000000 a", `\n`, `"`}
	for b := '!'; b <= '~'; b++ {
		all = append(all, string(b), string(b)+" "+string(b))
	}
	for _, text := range all {
		book := bookOf("x", text, "y")
		if l, torn, e := camera.Lines(book); e != api.OK || torn || !slices.Equal(l, linesOf("x", text, "y")) {
			t.Errorf("Lines of %q: %v %t, error %d", book, l, torn, e)
		}
		checkLines(t, book)
	}
}

// Each change of a byte, each byte put in or taken away makes a wrong line, or tears the last one.
func TestChangedBooks(t *testing.T) {
	book := bookOf("row ++.", "see 5,2,9", "x")
	for at := range len(book) + 1 {
		for _, with := range []string{"0", "1", "9", "a", "f", "F", "A", " ", "\n", "x", "+", ".", "\r", "\x00", "\x7f", "\xff", "\n\n", ""} {
			checkLines(t, book[:at]+with+book[at:])
			if at < len(book) {
				checkLines(t, book[:at]+with+book[at+1:])
				checkLines(t, book[:at]+with+book[min(at+2, len(book)):])
			}
		}
		checkLines(t, book[at:])
		checkLines(t, book+book[:at])
	}
}

// Together with an error there are no other results, but for the number of lines.
func checkReplayError(t *testing.T, book string, lines int, want api.Errno) {
	t.Helper()
	if x, n, e := camera.Replay(book); x != nil || n != lines || e != want {
		t.Errorf("Replay of %.200q: %d lines, error %d, want %d, %d", book, n, e, lines, want)
	}
	if replies, e := camera.Replies(book); len(replies) > 0 || e != want {
		t.Errorf("Replies of %.200q: %q, error %d", book, replies, e)
	}
	if masks, e := camera.Masks(book); len(masks) > 0 || e != want {
		t.Errorf("Masks of %.200q: %v, error %d", book, masks, e)
	}
}

// Right lines that a camera refuses are ErrSum, with the lines that were done before.
func TestRefusedLinesOfABook(t *testing.T) {
	checkReplayError(t, bookOf("hello"), 0, api.ErrSum)
	checkReplayError(t, bookOf("cut 0"), 0, api.ErrSum)
	checkReplayError(t, bookOf("row +", "row ++"), 1, api.ErrSum)
	checkReplayError(t, bookOf("row +", "row ++")+"2 torn", 1, api.ErrSum)
	checkReplayError(t, bookOf("row +", "row ++", "row +", "known"), 1, api.ErrSum)
	checkReplayError(t, bookOf("row +", "known", "trust 11", "x", "x"), 2, api.ErrSum)
	checkReplayError(t, bookOf("row +", "key 0", "row  +"), 2, api.ErrSum)
	checkReplayError(t, bookOf("row +", "key 0", "read 1", "cut 0"), 3, api.ErrSum)
	checkReplayError(t, bookOf("row +", "row +", "least 0,1"), 2, api.ErrSum)
	checkReplayError(t, bookOf("row +", "told 0"), 1, api.ErrSum)
	// A wrong line behind the refused one is told first, with no line done.
	checkReplayError(t, bookOf("row +", "row ++")+"2 wrong\n", 0, api.ErrSum)
	if l, torn, e := camera.Lines(bookOf("hello", "row +", "row ++")); len(l) != 3 || torn || e != api.OK {
		t.Error("Lines asks more of a text", l, torn, e)
	}
	for i, line := range bookLines() {
		lines := slices.Insert(bookLines(), i, "known known")
		checkReplayError(t, bookOf(lines...), i, api.ErrSum)
		if y, n, e := camera.Replay(bookOf(bookLines()[:i]...)); e != api.OK || n != i {
			t.Error("before", line, y, n, e)
		}
	}
}

func TestLongBooks(t *testing.T) {
	start := bookOf("row +", "known")
	for _, length := range []int{599999, 600000, 600001, 700000, 2000000} {
		for _, filling := range []string{"x", "\n", "2 ", " "} {
			book := (start + strings.Repeat(filling, length))[:length]
			switch {
			case length > 600000:
				checkLinesError(t, book, nil, api.ErrLong)
				checkReplayError(t, book, 0, api.ErrLong)
			case filling == "\n":
				checkLinesError(t, book, linesOf("row +", "known"), api.ErrSum)
				checkReplayError(t, book, 0, api.ErrSum)
			default:
				l, torn, e := camera.Lines(book)
				x, n, f := camera.Replay(book)
				if e != api.OK || !torn || !slices.Equal(l, linesOf("row +", "known")) || f != api.OK || n != 2 || x.Book() != start {
					t.Error("a book of", length, "bytes", l, torn, e, n, f)
				}
			}
		}
	}
}

func checkLinesError(t *testing.T, book string, want []api.Line, wantError api.Errno) {
	t.Helper()
	if l, torn, e := camera.Lines(book); e != wantError || torn || !slices.Equal(l, want) {
		t.Errorf("Lines of %.100q..: %d lines %t, error %d, want %d, %d", book, len(l), torn, e, len(want), wantError)
	}
}

func TestManyLines(t *testing.T) {
	all := slices.Repeat([]string{"clear", "trust 3"}, 1500)
	full := bookOf(all[:2000]...)
	x, n, e := camera.Replay(full)
	if e != api.OK || n != 2000 || x.Book() != full {
		t.Fatal("Replay of 2,000 lines:", n, e)
	}
	for _, count := range []int{1999, 2000} {
		l, torn, e := camera.Lines(bookOf(all[:count]...))
		if e != api.OK || torn || !slices.Equal(l, linesOf(all[:count]...)) {
			t.Error("Lines of", count, "lines:", len(l), torn, e)
		}
	}
	for _, count := range []int{2001, 2002, 3000} {
		checkLinesError(t, bookOf(all[:count]...), nil, api.ErrLimit)
		checkReplayError(t, bookOf(all[:count]...), 0, api.ErrLimit)
	}
	right := strings.TrimPrefix(bookOf(all[:2001]...), full)
	checkLinesError(t, full+right+"wrong\n", nil, api.ErrLimit)
	checkLinesError(t, full+right+"torn", nil, api.ErrLimit)
	checkLinesError(t, full+"wrong\n"+right, linesOf(all[:2000]...), api.ErrSum)
	checkLinesError(t, full+"2001"+right[4:], linesOf(all[:2000]...), api.ErrSum)
	checkReplayError(t, full+"wrong\n", 0, api.ErrSum)
	if l, torn, e := camera.Lines(full + strings.TrimSuffix(right, "\n")); e != api.OK || !torn || len(l) != 2000 {
		t.Error("a torn line behind 2,000 lines:", len(l), torn, e)
	}
	// A wrong line ahead of the last ones.
	lines := strings.SplitAfter(full+right, "\n")
	lines[1990] = "1990 x\n"
	checkLinesError(t, strings.Join(lines, ""), linesOf(all[:1990]...), api.ErrSum)
	// The longest lines that 2,000 may be are no book that is too long.
	long := bookOf(slices.Repeat([]string{strings.Repeat("x", 200)}, 2000)...)
	if l, torn, e := camera.Lines(long); e != api.OK || torn || len(l) != 2000 {
		t.Error("Lines of 2,000 long lines:", len(l), torn, e)
	}
	refused := bookOf(append(slices.Clone(all[:1999]), "cut 0")...)
	checkReplayError(t, refused, 1999, api.ErrSum)
}

func TestParting(t *testing.T) {
	a := []string{"row ++.", "row .++", "known", "order", "trust 1"}
	for n := range len(a) + 1 {
		for m := range len(a) + 1 {
			checkParting(t, bookOf(a[:n]...), bookOf(a[:m]...), min(n, m))
		}
		b := slices.Clone(a)
		if n < len(a) {
			b[n] = "clear"
		}
		checkParting(t, bookOf(a...), bookOf(b...), n)
		checkParting(t, bookOf(a...), bookOf(b...)+"torn", n)
		c := slices.Insert(slices.Clone(a), n, "hello")
		checkParting(t, bookOf(a...), bookOf(c...), n)
	}
	// What is torn counts for nothing.
	book := bookOf(a...)
	for at := range len(book) + 1 {
		checkParting(t, book, book[:at], strings.Count(book[:at], "\n"))
	}
	checkParting(t, "torn", "torn", 0)
	// Behind lines that differ the same texts have other sums.
	checkParting(t, bookOf("a", "b", "c"), bookOf("x", "b", "c"), 0)
	checkParting(t, bookOf("a", "b", "c"), bookOf("b", "a", "c"), 0)
	checkParting(t, bookOf("a", "b", "c"), bookOf("a", "x", "c"), 1)
	long := slices.Repeat([]string{"clear"}, 2000)
	checkParting(t, bookOf(long...), bookOf(long...), 2000)
	checkParting(t, bookOf(long...), bookOf(long[:1999]...), 1999)
}

func checkParting(t *testing.T, a, b string, want int) {
	t.Helper()
	for _, pair := range [][2]string{{a, b}, {b, a}} {
		if same, e := camera.Parting(pair[0], pair[1]); same != want || e != api.OK {
			t.Errorf("Parting of %.300q and %.300q: %d, error %d, want %d", pair[0], pair[1], same, e, want)
		}
	}
}

func TestErrorsOfParting(t *testing.T) {
	right := bookOf("row +", "known")
	wrong := map[api.Errno][]string{
		api.ErrLong:  {strings.Repeat("x", 600001), right + strings.Repeat("\n", 600000)},
		api.ErrSum:   {"\n", "wrong\n", right + "\n", right + "2 0123456789abcdef known\n", right + right},
		api.ErrLimit: {bookOf(slices.Repeat([]string{"clear"}, 2001)...)},
	}
	check := func(a, b string, want api.Errno) {
		t.Helper()
		if same, e := camera.Parting(a, b); same != 0 || e != want {
			t.Errorf("Parting of %.100q and %.100q: %d, error %d, want %d", a, b, same, e, want)
		}
	}
	for e, books := range wrong {
		for _, book := range books {
			check(book, right, e)
			check(right, book, e)
			check(book, "", e)
			check(book, book, e)
			for _, others := range wrong {
				for _, other := range others {
					check(book, other, e)
				}
			}
		}
	}
}

func TestMasks(t *testing.T) {
	book := bookOf("known", "row +")
	checkReplayError(t, book, 0, api.ErrSum)
	masks, e := camera.Masks(bookOf("trust 1", "row ++.", "known", "row .++", "clear", "cut 0", "see 1,2,3", "cut 0", "row -", "key 5", "clear", "row .", "cut 1", "cut 0", "trust 2"))
	want := []api.Mask{{{1, 1, 0}}, {{1, 1, 0}, {0, 1, 1}}, {{0, 1, 1}}, nil, {{-1}}, {{-1}, {0}}, {{-1}}, nil}
	if e != api.OK || fmt.Sprint(masks) != fmt.Sprint(want) || len(masks) == 8 && (masks[3] != nil || masks[7] != nil) {
		t.Error("Masks returns", masks, e)
	}
	for _, book := range []string{bookOf("trust 1", "clear"), bookOf("trust 1") + "1 row", "row +"} {
		if masks, e := camera.Masks(book); len(masks) > 0 || e != api.OK {
			t.Error("Masks of a book without rows", masks, e)
		}
	}
}
