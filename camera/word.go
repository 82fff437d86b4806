package camera

import (
	"strconv"
	"strings"

	"lightsieve/api"
)

// How many digits a number may have, by itself and in a list.
const (
	digitsAlone  = 6
	digitsListed = 7
)

// kind is a kind of words: it tells the numbers that a word of its kind stands for.
type kind interface {
	numbers(word string) ([]int, bool)
}

// count is a number that is not below 0.
type count struct{}

// list is numbers with single commas between them.
type list struct{}

// signs are a row as a mask's text has it.
type signs struct{}

func (count) numbers(word string) ([]int, bool) {
	n, is := parseNumber(word, digitsAlone)
	return []int{n}, is && n >= 0
}

func (list) numbers(word string) ([]int, bool) {
	var all []int
	for _, part := range strings.Split(word, ",") {
		n, is := parseNumber(part, digitsListed)
		if !is {
			return nil, false
		}
		all = append(all, n)
	}
	return all, true
}

func (signs) numbers(word string) ([]int, bool) {
	var row []int
	for _, sign := range []byte(word) {
		at := strings.IndexByte("-.+", sign)
		if at < 0 {
			return nil, false
		}
		row = append(row, at-1)
	}
	return row, len(row) >= 1 && len(row) <= api.MaxPixels
}

// parseNumber takes a number only as it is written in a reply.
func parseNumber(word string, digits int) (int, bool) {
	n, err := strconv.Atoi(word)
	return n, err == nil && strconv.Itoa(n) == word && len(strings.TrimPrefix(word, "-")) <= digits
}

// listed is numbers as a word of a line.
func listed(numbers []int) string {
	words := make([]string, len(numbers))
	for i, n := range numbers {
		words[i] = strconv.Itoa(n)
	}
	return strings.Join(words, ",")
}
