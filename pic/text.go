package pic

import (
	"strconv"
	"strings"

	"lightsieve/api"
)

// Format returns a line for each row of a picture, and the empty string for one that is not valid.
func Format(p api.Picture) string {
	if !Valid(p) {
		return ""
	}
	var text strings.Builder
	for i, n := range p.Pix {
		text.WriteString(strconv.Itoa(n))
		if (i+1)%p.Wide == 0 {
			text.WriteByte('\n')
		} else {
			text.WriteByte(' ')
		}
	}
	return text.String()
}

// Parse reads a text of Format; line is the number of the first wrong line with ErrSyntax, and 0 otherwise.
func Parse(s string) (p api.Picture, line int, e api.Errno) {
	if len(s) > api.MaxText {
		return api.Picture{}, 0, api.ErrLong
	}
	var read api.Picture
	// An empty text is asked for its line 0 as well, since no picture is without one.
	for rest := s; rest != "" || read.High == 0; {
		text, after, ended := strings.Cut(rest, "\n")
		row, ok := parseRow(text)
		if !ok || !ended || !fits(read, row) {
			return api.Picture{}, read.High, api.ErrSyntax
		}
		read.Wide = len(row)
		read.High++
		read.Pix = append(read.Pix, row...)
		rest = after
	}
	return read, 0, api.OK
}

// fits reports whether a row may stand under the rows that were read.
func fits(read api.Picture, row []int) bool {
	return read.High < api.MaxSide && (read.High == 0 || len(row) == read.Wide)
}

func parseRow(text string) ([]int, bool) {
	words := strings.Split(text, " ")
	if !side(len(words)) {
		return nil, false
	}
	row := make([]int, len(words))
	for i, word := range words {
		n, err := strconv.Atoi(word)
		// Only the way in which a number is written counts: no +, no -0, no zeros ahead.
		if err != nil || strconv.Itoa(n) != word {
			return nil, false
		}
		row[i] = n
	}
	return row, within(row, api.MaxValue)
}
