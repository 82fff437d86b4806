package fault

import (
	"strconv"
	"strings"

	"lightsieve/api"
)

// No number of a text is further from 0.
const farthest = 1000000000

// What stands between the numbers of a picture and those that were read of it.
const between = " : "

// Format returns a line for each test, and the empty string if a list is empty or the tests are too many.
func Format(t []api.Test) string {
	if len(t) > api.MaxTests || !all(t, func(test api.Test) bool { return len(test.Shown) > 0 && len(test.Read) > 0 }) {
		return ""
	}
	var text strings.Builder
	for _, test := range t {
		text.WriteString(words(test.Shown) + between + words(test.Read) + "\n")
	}
	return text.String()
}

// Parse reads a text of Format; line is the number of the first wrong line with ErrSyntax, and 0 otherwise.
func Parse(s string) (t []api.Test, line int, e api.Errno) {
	if len(s) > api.MaxText {
		return nil, 0, api.ErrLong
	}
	var read []api.Test
	for rest := s; rest != ""; {
		text, after, ended := strings.Cut(rest, "\n")
		test, is := parseTest(text)
		if !ended || !is || len(read) == api.MaxTests {
			return nil, len(read), api.ErrSyntax
		}
		read, rest = append(read, test), after
	}
	return read, 0, api.OK
}

func parseTest(text string) (api.Test, bool) {
	left, right, _ := strings.Cut(text, between)
	shown, isShown := parseNumbers(left)
	read, isRead := parseNumbers(right)
	return api.Test{Shown: shown, Read: read}, isShown && isRead
}

// parseNumbers takes at least one number.
func parseNumbers(text string) ([]int, bool) {
	var numbers []int
	for _, word := range strings.Split(text, " ") {
		n, is := parseNumber(word)
		if !is {
			return nil, false
		}
		numbers = append(numbers, n)
	}
	return numbers, true
}

// parseNumber takes a number only as it is written by Format.
func parseNumber(word string) (int, bool) {
	n, err := strconv.Atoi(word)
	return n, err == nil && n >= -farthest && n <= farthest && strconv.Itoa(n) == word
}

// words are numbers with single blanks between them.
func words(numbers []int) string {
	texts := make([]string, len(numbers))
	for i, n := range numbers {
		texts[i] = strconv.Itoa(n)
	}
	return strings.Join(texts, " ")
}
