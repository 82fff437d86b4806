package stream_test

import (
	"math"
	"slices"
	"strings"
	"testing"

	"lightsieve/api"
)

// asked are the parts of each call's question that may be wrong, in the order of their errors.
func asked() map[string]string {
	return map[string]string{
		"Encode": "mask pictures every", "Decode": "mask frames trust", "Missing": "mask frames trust",
		"Change": "mask first second", "Sizes": "mask pictures", "Sent": "mask pictures every trust",
		"Cost": "mask frames", "Sparsest": "mask pictures trust", "Lose": "mask frames index",
		"Harm": "mask frames trust index", "Worst": "mask frames trust", "Keys": "mask frames",
		"Joined": "mask frames others many",
	}
}

func errorOf(part string) api.Errno {
	switch part {
	case "every", "trust":
		return api.ErrRange
	case "index":
		return api.ErrName
	case "many":
		return api.ErrLimit
	}
	return api.ErrInvalid
}

// wrongs are ways to make a part of a question wrong, whatever the others are.
func wrongs(part string) []func(q *question) {
	far := []int{-1, math.MinInt, math.MaxInt, 1 << 32}
	switch part {
	case "mask":
		return ways(func(q *question, m api.Mask) { q.m = m }, wrongMasks())
	case "pictures":
		return append(ways(func(q *question, x []int) { q.p = append(slices.Clone(q.p), x) }, wrongPictures()),
			func(q *question) { q.p = nil }, func(q *question) { q.p = slices.Repeat(q.p[:1], 61) })
	case "frames":
		return wrongStreams(func(q *question) *[]api.Frame { return &q.f })
	case "others":
		return wrongStreams(func(q *question) *[]api.Frame { return &q.g })
	case "first":
		return ways(func(q *question, x []int) { q.x = x }, wrongPictures())
	case "second":
		return ways(func(q *question, x []int) { q.y = x }, wrongPictures())
	case "every":
		return ways(func(q *question, n int) { q.every = n }, append(far, 0, 61))
	case "trust":
		return ways(func(q *question, n int) { q.trust = n }, append(far, 4, 10, 11))
	case "index":
		return ways(func(q *question, n int) { q.i = n }, append(far, 3, 4, 60))
	case "many":
		return ways(func(q *question, n int) { q.f = slices.Repeat(q.f[:1], n) }, []int{57, 58, 60})
	}
	return nil
}

// wrongStreams have a wrong frame, begin with none that is a key, or are too many or none.
func wrongStreams(of func(q *question) *[]api.Frame) []func(q *question) {
	all := ways(func(q *question, f api.Frame) { *of(q) = append(slices.Clone(*of(q)), f) }, wrongFrames())
	return append(all,
		func(q *question) { *of(q) = append([]api.Frame{read(0, 0)}, *of(q)...) },
		func(q *question) { *of(q) = append([]api.Frame{read()}, *of(q)...) },
		func(q *question) { *of(q) = slices.Repeat([]api.Frame{key(0, 0, 0)}, 61) },
		func(q *question) { *of(q) = nil })
}

func ways[T any](set func(q *question, wrong T), all []T) []func(q *question) {
	var list []func(q *question)
	for _, wrong := range all {
		list = append(list, func(q *question) { set(q, wrong) })
	}
	return list
}

func TestErrors(t *testing.T) {
	for name, parts := range asked() {
		if r := calls()[name](right()); r.e != api.OK {
			t.Error(name, "of a right question", r)
		}
		for _, part := range strings.Fields(parts) {
			if len(wrongs(part)) == 0 {
				t.Error("no way to make it wrong", part)
			}
			for _, change := range wrongs(part) {
				q := right()
				change(&q)
				checkError(t, name, q, errorOf(part))
			}
		}
	}
}

// R2: of two parts that are wrong the first one decides.
func TestOrderOfErrors(t *testing.T) {
	for name, all := range asked() {
		parts := strings.Fields(all)
		for i, first := range parts {
			for _, later := range parts[i+1:] {
				checkOrder(t, name, first, later)
			}
		}
	}
}

// checkOrder makes the later part wrong ahead of the first one, which keeps what it can of it.
func checkOrder(t *testing.T, name, first, later string) {
	t.Helper()
	for _, changeLater := range wrongs(later) {
		for _, changeFirst := range wrongs(first) {
			q := right()
			changeLater(&q)
			changeFirst(&q)
			checkError(t, name, q, errorOf(first))
		}
	}
}

func TestAllIsWrong(t *testing.T) {
	for name, parts := range asked() {
		q := right()
		for _, part := range slices.Backward(strings.Fields(parts)) {
			wrongs(part)[0](&q)
			checkError(t, name, q, errorOf(part))
		}
	}
}

func checkError(t *testing.T, name string, q question, want api.Errno) {
	t.Helper()
	if r := calls()[name](q); r.e != want || !r.isZero() {
		t.Errorf("%s of %v answers %v, not %d", name, q, r, want)
	}
}

// The least and the greatest distances, trusts and indexes are no errors.
func TestNoErrors(t *testing.T) {
	for name := range asked() {
		for _, every := range []int{1, 2, 59, 60} {
			for trust := range 4 {
				for i := range 3 {
					q := right()
					q.every, q.trust, q.i = every, trust, i
					if r := calls()[name](q); r.e != api.OK {
						t.Error(name, q, r)
					}
				}
			}
		}
	}
}

// The greatest trust goes with the pixels of the mask, not with its rows or with MaxPixels.
func TestTrustOfEachMask(t *testing.T) {
	for rows := 1; rows <= 6; rows++ {
		for pixels := 1; pixels <= 10; pixels++ {
			m := slices.Repeat(api.Mask{filled(pixels, 1)}, rows)
			p := [][]int{filled(pixels, 0), filled(pixels, 0)}
			for trust := -2; trust <= 12; trust++ {
				q := question{m: m, p: p, f: encoded(m, p, 2), every: 1, trust: trust}
				want := api.OK
				if trust < 0 || trust > pixels {
					want = api.ErrRange
				}
				for _, name := range []string{"Decode", "Missing", "Sent", "Sparsest", "Harm", "Worst"} {
					if r := calls()[name](q); r.e != want {
						t.Error(name, rows, pixels, trust, r)
					}
				}
			}
		}
	}
}
