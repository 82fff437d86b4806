package fault_test

import (
	"slices"
	"strings"
	"testing"

	"lightsieve/api"
)

// asked are the parts of each call's question that may be wrong, in the order of their errors.
func asked() map[string]string {
	return map[string]string{
		"All": "mask", "Faulty": "mask fault", "Reads": "mask fault picture", "One": "mask fault other",
		"Explains": "mask fault tests", "Which": "mask tests", "First": "mask tests unexplained",
		"Part": "mask fault other shown", "Classes": "mask shown", "Fewest": "mask shown", "Enough": "mask shown", "Units": "mask",
		"Best": "mask tests shown unexplained", "Play": "mask fault shown",
	}
}

func errorOf(part string) api.Errno {
	switch part {
	case "picture", "shown":
		return api.ErrRange
	case "unexplained":
		return api.ErrNone
	}
	return api.ErrInvalid
}

// wrongs are ways to make a part of a question wrong, whatever the others are.
func wrongs(part string) []func(q *question) {
	switch part {
	case "mask":
		return ways(func(q *question, m api.Mask) { q.m = m }, wrongMasks())
	case "fault":
		return ways(func(q *question, f api.Fault) { q.f = f }, wrongFaults())
	case "other":
		return ways(func(q *question, f api.Fault) { q.g = f }, wrongFaults())
	case "tests":
		return append(ways(func(q *question, t api.Test) { q.t = append(slices.Clone(q.t), t) }, wrongTests()),
			func(q *question) { q.t = append([]api.Test{wrongTests()[0]}, q.t...) },
			func(q *question) { q.t = slices.Repeat(q.t[:1], 13) }, func(q *question) { q.t = slices.Repeat(q.t[:1], 1000) })
	case "picture":
		return ways(func(q *question, x []int) { q.x = x }, wrongPictures())
	case "shown":
		return append(ways(func(q *question, x []int) { q.shown = append(slices.Clone(q.shown), x) }, wrongPictures()),
			func(q *question) { q.shown = append([][]int{wrongPictures()[0]}, q.shown...) },
			func(q *question) { q.shown = slices.Repeat(q.shown[:1], 13) }, func(q *question) { q.shown = slices.Repeat(q.shown[:1], 1000) })
	case "unexplained":
		return []func(q *question){
			func(q *question) { q.t = []api.Test{test([]int{1, 2}, 7)} },
			func(q *question) { q.t = []api.Test{test([]int{1, 0}, 0), test([]int{1, 0}, 1)} },
			func(q *question) { q.t = []api.Test{test([]int{0, 0}, 1000000000)} },
		}
	}
	return nil
}

func ways[T any](set func(q *question, wrong T), all []T) []func(q *question) {
	var list []func(q *question)
	for _, wrong := range all {
		list = append(list, func(q *question) { set(q, wrong) })
	}
	return list
}

func TestErrors(t *testing.T) {
	for name, parts := range asked() {
		if r := calls()[name](right()); r.e != api.OK {
			t.Error(name, "of a right question", r)
		}
		for _, part := range strings.Fields(parts) {
			if len(wrongs(part)) == 0 {
				t.Error("no way to make it wrong", part)
			}
			for _, change := range wrongs(part) {
				q := right()
				change(&q)
				checkError(t, name, q, errorOf(part))
			}
		}
	}
}

// R2: of two parts that are wrong the first one decides.
func TestOrderOfErrors(t *testing.T) {
	for name, all := range asked() {
		parts := strings.Fields(all)
		for i, first := range parts {
			for _, later := range parts[i+1:] {
				checkOrder(t, name, first, later)
			}
		}
	}
}

// checkOrder makes the later part wrong ahead of the first one, which keeps what it can of it.
func checkOrder(t *testing.T, name, first, later string) {
	t.Helper()
	for _, changeLater := range wrongs(later) {
		for _, changeFirst := range wrongs(first) {
			q := right()
			changeLater(&q)
			changeFirst(&q)
			checkError(t, name, q, errorOf(first))
		}
	}
}

func TestAllIsWrong(t *testing.T) {
	for name, parts := range asked() {
		q := right()
		for _, part := range slices.Backward(strings.Fields(parts)) {
			wrongs(part)[0](&q)
			checkError(t, name, q, errorOf(part))
		}
	}
}

func checkError(t *testing.T, name string, q question, want api.Errno) {
	t.Helper()
	if r := calls()[name](q); r.e != want || !r.isZero() {
		t.Errorf("%s of %v answers %v, not %d", name, q, r, want)
	}
}

// The most tests and pictures, the greatest numbers, and none at all are no errors, but for what Best can't tell.
func TestNoErrors(t *testing.T) {
	great := []int{1000000, -1000000}
	for name := range asked() {
		for _, n := range []int{0, 1, 11, 12} {
			for _, f := range faultsOf(two()) {
				q := question{m: two(), f: f, g: f, t: slices.Repeat([]api.Test{test(great, 2000000)}, n), shown: slices.Repeat([][]int{great}, n), x: great}
				want := api.OK
				if name == "Best" && n == 0 {
					want = api.ErrNone
				}
				if r := calls()[name](q); r.e != want {
					t.Error(name, q, r)
				}
			}
		}
	}
}

// Pictures must fit the mask, whatever its size.
func TestLengthsOfPictures(t *testing.T) {
	for rows := 1; rows <= 6; rows++ {
		for pixels := 1; pixels <= 10; pixels++ {
			for n := range 12 {
				q := question{m: slices.Repeat(api.Mask{filled(pixels, 1)}, rows), shown: [][]int{filled(n, 1)}, x: filled(n, 1)}
				want := api.OK
				if n != pixels {
					want = api.ErrRange
				}
				for _, name := range []string{"Reads", "Part", "Classes", "Fewest", "Enough", "Best", "Play"} {
					if r := calls()[name](q); r.e != want {
						t.Error(name, rows, pixels, n, r)
					}
				}
			}
		}
	}
}
