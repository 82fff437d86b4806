package mask

import (
	"strings"

	"lightsieve/api"
)

// The signs of -1, 0 and 1.
const signs = "-.+"

// Format returns a line of signs for each row of a mask, and the empty string for one that is not valid.
func Format(m api.Mask) string {
	if !Valid(m) {
		return ""
	}
	var text strings.Builder
	for _, row := range m {
		for _, n := range row {
			text.WriteByte(signs[n+1])
		}
		text.WriteByte('\n')
	}
	return text.String()
}

// Parse reads a text of Format; line is the number of the first wrong line with ErrSyntax, and 0 otherwise.
func Parse(s string) (m api.Mask, line int, e api.Errno) {
	if len(s) > api.MaxText {
		return nil, 0, api.ErrLong
	}
	var read api.Mask
	// An empty text is asked for its line 0 as well, since no mask is without one.
	for rest := s; rest != "" || len(read) == 0; {
		text, after, ended := strings.Cut(rest, "\n")
		longer := append(read, parseRow(text))
		// A text begins with these lines just if they are a mask themselves.
		if !ended || !Valid(longer) {
			return nil, len(read), api.ErrSyntax
		}
		read, rest = longer, after
	}
	return read, 0, api.OK
}

// parseRow returns an empty row, which no mask has, for a text with anything but signs.
func parseRow(text string) []int {
	var row []int
	for _, sign := range text {
		at := strings.IndexRune(signs, sign)
		if at < 0 {
			return nil
		}
		row = append(row, at-1)
	}
	return row
}
