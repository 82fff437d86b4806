package stream

import (
	"strconv"
	"strings"

	"lightsieve/api"
	"lightsieve/mask"
)

// The first words of keys, and of the other frames.
const (
	keyWord  = "key"
	readWord = "read"
)

// form is how the frames with one first word are made of their numbers.
type form struct {
	frame func(values []int) api.Frame
}

// Format returns a line for each frame, and the empty string for frames that are not valid.
func Format(m api.Mask, f []api.Frame) string {
	if !Valid(m, f) {
		return ""
	}
	var text strings.Builder
	for _, frame := range f {
		text.WriteString(shot{frame}.word())
		for _, n := range frame.Values {
			text.WriteString(" " + strconv.Itoa(n))
		}
		text.WriteByte('\n')
	}
	return text.String()
}

// Parse reads a text of Format; line is the number of the first wrong line with ErrSyntax, and 0 otherwise.
func Parse(m api.Mask, s string) (f []api.Frame, line int, e api.Errno) {
	if !mask.Valid(m) {
		return nil, 0, api.ErrInvalid
	}
	if len(s) > api.MaxText {
		return nil, 0, api.ErrLong
	}
	var read []api.Frame
	// An empty text is asked for its line 0 as well, since there are no streams without a frame.
	for rest := s; rest != "" || len(read) == 0; {
		text, after, ended := strings.Cut(rest, "\n")
		frame, is := parseFrame(text)
		longer := append(read, frame)
		// A text begins with these lines just if they are valid frames themselves.
		if !ended || !is || !Valid(m, longer) {
			return nil, len(read), api.ErrSyntax
		}
		read, rest = longer, after
	}
	return read, 0, api.OK
}

// forms are found by the first words of their lines.
func forms() map[string]form {
	return map[string]form{
		keyWord:  {func(values []int) api.Frame { return api.Frame{Key: true, Values: values} }},
		readWord: {func(values []int) api.Frame { return api.Frame{Values: values} }},
	}
}

func (s shot) word() string {
	if s.Key {
		return keyWord
	}
	return readWord
}

// parseFrame takes numbers of any kind and count.
func parseFrame(text string) (api.Frame, bool) {
	words := strings.Split(text, " ")
	form, is := forms()[words[0]]
	if !is {
		return api.Frame{}, false
	}
	var values []int
	for _, word := range words[1:] {
		n, is := parseNumber(word)
		if !is {
			return api.Frame{}, false
		}
		values = append(values, n)
	}
	return form.frame(values), true
}

// parseNumber takes a number only as it is written by Format.
func parseNumber(word string) (int, bool) {
	n, err := strconv.Atoi(word)
	return n, err == nil && strconv.Itoa(n) == word
}
