package bit_test

import (
	"math"
	"slices"
	"strings"
	"testing"

	"lightsieve/api"
)

// asked are the parts of each call's question that may be wrong, in the order of their errors.
func asked() map[string]string {
	return map[string]string{
		"Pictures": "field", "Sight": "field row", "Sum": "field row length numbers",
		"Fits": "field cells length numbers", "Count": "field cells", "First": "field cells none",
		"Bounds": "field cells pixel none", "Known": "field cells none",
		"Quantised": "field row length numbers step", "Bit": "field row length numbers threshold bottom",
		"Parts": "field cells row threshold", "Halve": "field cells row none", "Next": "field cells rows choice none",
		"Idle": "field cells", "Clash": "field cells many fitting", "Play": "field rows length numbers choice most",
	}
}

func errorOf(part string) api.Errno {
	switch part {
	case "field", "cells", "row", "rows":
		return api.ErrInvalid
	case "length":
		return api.ErrSize
	case "pixel":
		return api.ErrName
	case "many":
		return api.ErrLimit
	case "none", "fitting":
		return api.ErrNone
	}
	return api.ErrRange
}

// wrongs are ways to make a part of a question wrong, whatever the others are.
func wrongs(part string) []func(q *question) {
	switch part {
	case "field":
		return ways(func(q *question, f api.Field) { q.f = f }, wrongFields())
	case "cells":
		return append(ways(func(q *question, c api.Cell) { q.c = append(q.c, c) }, wrongCells()),
			func(q *question) { q.c = slices.Repeat(q.c[:1], 31) })
	case "row":
		return ways(func(q *question, row []int) { q.row = row }, wrongRows())
	case "rows":
		return ways(func(q *question, row []int) { q.rows = append(q.rows, row) }, wrongRows())
	case "length":
		return ways(func(q *question, x []int) { q.x = x }, [][]int{nil, {}, {0}, {1, 0, 0}, {-1}, {2, 2, 2}, {0, 0, math.MaxInt}, filled(100, 0)})
	case "numbers":
		return ways(func(q *question, x []int) { q.x = x }, [][]int{{2, 0}, {0, 2}, {-1, 0}, {0, -1}, {3, 3}, {4, 0}, {1, math.MaxInt}, {math.MinInt, 0}, {256, 0}, {0, 1 << 32}})
	case "choice":
		return ways(func(q *question, n int) { q.rows = slices.Repeat([][]int{{1, 0}}, n) }, []int{0, 21, 22, 1000})
	case "many":
		return ways(func(q *question, n int) { q.c = slices.Repeat(q.c[:1], n) }, []int{13, 14, 30})
	case "none":
		return ways(func(q *question, c []api.Cell) { q.c = slices.Clone(c) }, none())
	case "fitting":
		return ways(func(q *question, c []api.Cell) { q.c = slices.Repeat(c, len(q.c)) }, [][]api.Cell{{cell(0, 2, 1, 1)}})
	}
	return wrongNumbers(part)
}

func wrongNumbers(part string) []func(q *question) {
	far := []int{math.MinInt, math.MaxInt, 1 << 32}
	switch part {
	case "pixel":
		return ways(func(q *question, n int) { q.pixel = n }, append(far, -1, 2, 8))
	case "step":
		return ways(func(q *question, n int) { q.step = n }, append(far, 0, -1, 101))
	case "threshold":
		return ways(func(q *question, n int) { q.threshold = n }, append(far, -101, 101))
	case "bottom":
		return ways(func(q *question, n int) { q.threshold = n }, []int{-100})
	case "most":
		return ways(func(q *question, n int) { q.most = n }, append(far, -1, 31))
	}
	return nil
}

func ways[T any](set func(q *question, wrong T), all []T) []func(q *question) {
	var list []func(q *question)
	for _, wrong := range all {
		list = append(list, func(q *question) { set(q, wrong) })
	}
	return list
}

// base is a question that a call answers without an error; no picture fits the cells of Clash's.
func base(name string) question {
	q := right()
	if name == "Clash" {
		q.c = none()[0]
	}
	return q
}

func TestErrors(t *testing.T) {
	for name, parts := range asked() {
		if r := calls()[name](base(name)); r.e != api.OK {
			t.Error(name, "of a right question", r)
		}
		for _, part := range strings.Fields(parts) {
			if len(wrongs(part)) == 0 {
				t.Error("no way to make it wrong", part)
			}
			for _, change := range wrongs(part) {
				q := base(name)
				change(&q)
				checkError(t, name, q, errorOf(part))
			}
		}
	}
}

// R2: of two parts that are wrong the first one decides.
func TestOrderOfErrors(t *testing.T) {
	for name, all := range asked() {
		parts := strings.Fields(all)
		for i, first := range parts {
			for _, later := range parts[i+1:] {
				checkOrder(t, name, first, later)
			}
		}
	}
}

// checkOrder makes the later part wrong ahead of the first one, which keeps what it can of it.
func checkOrder(t *testing.T, name, first, later string) {
	t.Helper()
	for _, changeLater := range wrongs(later) {
		for _, changeFirst := range wrongs(first) {
			q := base(name)
			changeLater(&q)
			changeFirst(&q)
			checkError(t, name, q, errorOf(first))
		}
	}
}

func TestAllIsWrong(t *testing.T) {
	for name, parts := range asked() {
		q := base(name)
		for _, part := range slices.Backward(strings.Fields(parts)) {
			wrongs(part)[0](&q)
			checkError(t, name, q, errorOf(part))
		}
	}
}

func checkError(t *testing.T, name string, q question, want api.Errno) {
	t.Helper()
	if r := calls()[name](q); r.e != want || !r.isZero() {
		t.Errorf("%s of %v answers %v, not %d", name, q, r, want)
	}
}

// A field that is not valid, with cells, rows and pictures of just its length.
func TestFieldsAlone(t *testing.T) {
	for _, f := range wrongFields() {
		if f.Pixels < 0 || f.Pixels > 300 {
			continue
		}
		for name := range asked() {
			row := filled(f.Pixels, 0)
			q := question{f: f, rows: [][]int{row}, row: row, x: row, step: 1, threshold: 1, most: 1}
			checkError(t, name, q, api.ErrInvalid)
			q.c = []api.Cell{cell(0, 0, row...)}
			checkError(t, name, q, api.ErrInvalid)
		}
	}
}
