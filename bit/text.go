package bit

import (
	"strconv"
	"strings"

	"lightsieve/api"
)

// The signs of -1, 0 and 1.
const signs = "-.+"

// Format returns a line for each cell, and the empty string for cells that are not valid, or not for the same field.
func Format(c []api.Cell) string {
	if !alike(c) {
		return ""
	}
	var text strings.Builder
	for _, cell := range c {
		text.WriteString(strconv.Itoa(cell.Lo) + " " + strconv.Itoa(cell.Hi) + " ")
		for _, n := range cell.Row {
			text.WriteByte(signs[n+1])
		}
		text.WriteByte('\n')
	}
	return text.String()
}

// Parse reads a text of Format; line is the number of the first wrong line with ErrSyntax, and 0 otherwise.
func Parse(s string) (c []api.Cell, line int, e api.Errno) {
	if len(s) > api.MaxText {
		return nil, 0, api.ErrLong
	}
	var read []api.Cell
	for rest := s; rest != ""; {
		text, after, ended := strings.Cut(rest, "\n")
		longer := append(read, parseCell(text))
		// A text begins with these lines just if they are such cells themselves.
		if !ended || !alike(longer) {
			return nil, len(read), api.ErrSyntax
		}
		read, rest = longer, after
	}
	return read, 0, api.OK
}

// alike reports whether cells are valid for a field with as many pixels as the first one; its numbers do not matter.
func alike(c []api.Cell) bool {
	return len(c) == 0 || ValidCells(api.Field{Pixels: len(c[0].Row)}, c)
}

// parseCell returns a cell without a row, which is not valid, for any other text.
func parseCell(text string) api.Cell {
	words := strings.Split(text, " ")
	if len(words) != 3 {
		return api.Cell{}
	}
	lo, isLo := parseNumber(words[0])
	hi, isHi := parseNumber(words[1])
	if !isLo || !isHi {
		return api.Cell{}
	}
	return api.Cell{Row: parseRow(words[2]), Lo: lo, Hi: hi}
}

// parseNumber takes a number only as it is written by Format.
func parseNumber(word string) (int, bool) {
	n, err := strconv.Atoi(word)
	return n, err == nil && strconv.Itoa(n) == word
}

// parseRow returns an empty row, which no cell has, for a word with anything but signs.
func parseRow(word string) []int {
	var row []int
	for _, sign := range word {
		at := strings.IndexRune(signs, sign)
		if at < 0 {
			return nil
		}
		row = append(row, at-1)
	}
	return row
}
