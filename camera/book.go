package camera

import (
	"strconv"
	"strings"

	"lightsieve/api"
)

// longestBook is how many bytes a book may have.
const longestBook = 600000

// The hash begins with the first number, and each byte multiplies it by the second one.
const (
	hashStart  = 14695981039346656037
	hashFactor = 1099511628211
	hashDigits = 16
)

// write puts a line into the book.
func (s *state) write(text string) {
	line := lineAfter(s.lines, s.sum, text)
	s.book += written(line) + "\n"
	s.lines, s.sum = s.lines+1, line.Sum
}

// Lines returns the whole lines of a book, and whether something torn stands behind them.
// With ErrSum the lines before the wrong one are returned.
func Lines(book string) (l []api.Line, torn bool, e api.Errno) {
	if len(book) > longestBook {
		return nil, false, api.ErrLong
	}
	var sum uint64
	for {
		whole, rest, ended := strings.Cut(book, "\n")
		if !ended {
			return l, book != "", api.OK
		}
		line, right := parseLine(whole, len(l), sum)
		if !right {
			return l, false, api.ErrSum
		}
		if len(l) == api.MaxLines {
			return nil, false, api.ErrLimit
		}
		l = append(l, line)
		book, sum = rest, line.Sum
	}
}

// Replay makes the camera of a book, and returns it with the number of lines done.
// With ErrSum for a line that the camera refuses, there are the lines before it, and no camera.
func Replay(book string) (*Camera, int, api.Errno) {
	return replay(book, func(*Camera, string, string) {})
}

// Replies returns the replies to the lines of a book.
func Replies(book string) ([]string, api.Errno) {
	var replies []string
	_, _, e := replay(book, func(_ *Camera, _, reply string) { replies = append(replies, reply) })
	if e != api.OK {
		return nil, e
	}
	return replies, api.OK
}

// Masks returns the mask behind each line that puts a row in or takes one out.
func Masks(book string) ([]api.Mask, api.Errno) {
	var masks []api.Mask
	_, _, e := replay(book, func(x *Camera, text, _ string) {
		if strings.HasPrefix(text, "row ") || strings.HasPrefix(text, "cut ") {
			masks = append(masks, x.Mask())
		}
	})
	if e != api.OK {
		return nil, e
	}
	return masks, api.OK
}

// Parting returns how many first lines two books share.
func Parting(a, b string) (same int, e api.Errno) {
	linesOfA, _, e := Lines(a)
	if e != api.OK {
		return 0, e
	}
	linesOfB, _, e := Lines(b)
	if e != api.OK {
		return 0, e
	}
	for same < min(len(linesOfA), len(linesOfB)) && linesOfA[same] == linesOfB[same] {
		same++
	}
	return same, api.OK
}

// replay hands out the camera behind each line, with the line's text and its reply.
func replay(book string, done func(x *Camera, text, reply string)) (*Camera, int, api.Errno) {
	lines, _, e := Lines(book)
	if e != api.OK {
		return nil, 0, e
	}
	x := New()
	for i, line := range lines {
		reply, e := x.Do(line.Text)
		if e != api.OK {
			return nil, i, api.ErrSum
		}
		done(x, line.Text, reply)
	}
	return x, len(lines), api.OK
}

// parseLine takes the line of a number just as it is written behind a sum.
func parseLine(whole string, number int, before uint64) (api.Line, bool) {
	parts := strings.SplitN(whole, " ", 3)
	text := parts[len(parts)-1]
	line := lineAfter(number, before, text)
	return line, isText(text) && written(line) == whole
}

func lineAfter(number int, before uint64, text string) api.Line {
	return api.Line{Number: number, Text: text, Sum: hash(hexadecimal(before) + " " + text)}
}

// written is a line without its line feed.
func written(line api.Line) string {
	return strconv.Itoa(line.Number) + " " + hexadecimal(line.Sum) + " " + line.Text
}

func hexadecimal(sum uint64) string {
	digits := strconv.FormatUint(sum, 16)
	return strings.Repeat("0", hashDigits-len(digits)) + digits
}

func hash(text string) uint64 {
	sum := uint64(hashStart)
	for _, b := range []byte(text) {
		sum = (sum ^ uint64(b)) * hashFactor
	}
	return sum
}
