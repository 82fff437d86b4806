package stream_test

import (
	"slices"
	"testing"

	"lightsieve/api"
	"lightsieve/sparse"
	"lightsieve/stream"
)

func TestChange(t *testing.T) {
	for _, c := range []struct{ a, b, want []int }{
		{[]int{1, 2, 3}, []int{1, 2, 3}, []int{0, 0, 0}},
		{[]int{1, 2, 3}, []int{4, 0, -3}, []int{3, -2, -6}},
		{[]int{-1000, 1000, 0}, []int{1000, -1000, 1000}, []int{2000, -2000, 1000}},
	} {
		if x, e := stream.Change(three(), c.a, c.b); e != api.OK || !slices.Equal(x, c.want) {
			t.Error("Change", c.a, c.b, x, e)
		}
	}
}

// A change is just what lies between two pictures of each sample.
func TestChangeOfSamples(t *testing.T) {
	for _, s := range samples() {
		for _, a := range s.p {
			for _, b := range s.p {
				if x, e := stream.Change(s.m, a, b); e != api.OK || !slices.Equal(sumOf(a, x), b) {
					t.Error("Change", a, b, x, e)
				}
			}
		}
	}
}

func TestSizes(t *testing.T) {
	for _, c := range []struct {
		p    [][]int
		want []int
	}{
		{[][]int{{0, 0, 0}}, nil},
		{[][]int{{0, 0, 0}, {0, 0, 0}}, []int{0}},
		{[][]int{{0, 0, 0}, {0, 5, 0}, {0, 5, 2}}, []int{1, 1}},
		{[][]int{{1, 2, 3}, {3, 2, 1}, {-1000, 1000, 999}, {-1000, 1000, 999}, {0, 0, 999}}, []int{2, 3, 0, 2}},
		{slices.Repeat([][]int{{0, 0, 0}}, 60), filled(59, 0)},
	} {
		if sizes, e := stream.Sizes(three(), c.p); e != api.OK || !slices.Equal(sizes, c.want) {
			t.Error("Sizes", c.p, sizes, e)
		}
	}
	for _, s := range samples() {
		sizes, e := stream.Sizes(s.m, s.p)
		if e != api.OK || len(sizes) != len(s.p)-1 {
			t.Fatal("Sizes", s.p, sizes, e)
		}
		for i, size := range sizes {
			if x, _ := stream.Change(s.m, s.p[i], s.p[i+1]); size != notZero(x) {
				t.Error("Sizes", s.p, sizes)
			}
		}
	}
}

func notZero(x []int) int {
	n := 0
	for _, value := range x {
		if value != 0 {
			n++
		}
	}
	return n
}

func TestSent(t *testing.T) {
	m, halves := three(), api.Mask{{1, 1}, {1, -1}}
	for _, c := range []struct {
		m            api.Mask
		p            [][]int
		every, trust int
		want         bool
	}{
		{m, [][]int{{1, 2, 3}}, 1, 0, true},
		{m, [][]int{{1, 2, 3}}, 60, 3, true},
		{m, example(1, 0).p, 3, 1, true},
		{m, example(1, 0).p, 3, 0, false},
		{m, example(1, 0).p, 2, 0, false},
		{m, example(1, 0).p, 1, 0, true},
		{m, example(1, 0).p, 60, 1, true},
		{m, example(1, 0).p, 3, 2, false}, // two pictures make the reading 5 5
		{m, example(1, 0).p, 1, 3, true},
		{m, [][]int{{7, 7, 7}, {7, 7, 7}, {7, 7, 7}}, 3, 0, true},
		{m, [][]int{{7, 7, 7}, {7, 7, 7}, {7, 7, 8}}, 3, 0, false},
		{m, [][]int{{7, 7, 7}, {7, 7, 7}, {7, 7, 8}}, 2, 0, true},
		{m, [][]int{{0, 0, 0}, {2, 0, 3}}, 2, 2, false},
		{m, [][]int{{0, 0, 0}, {1, 0, 1}}, 2, 1, false}, // it is told as 0 1 0
		{halves, [][]int{{0, 0}, {1, 1}, {2, 3}}, 3, 2, true},
		{halves, [][]int{{0, 0}, {1, 1}, {2, 3}}, 3, 1, false},
		{single(3), [][]int{{-1000, 1000, 0}, {1000, -1000, 1000}, {-1000, 1000, 0}}, 3, 3, true},
		{single(3), [][]int{{-1000, 1000, 0}, {1000, -1000, 1000}, {-1000, 1000, 0}}, 3, 2, false},
	} {
		if is, e := stream.Sent(c.m, c.p, c.every, c.trust); e != api.OK || is != c.want {
			t.Error("Sent", c.m, c.p, c.every, c.trust, is, e)
		}
	}
}

// Sent and Sparsest by the words of the chapter.
func TestSentOfSamples(t *testing.T) {
	sent, unsent := 0, 0
	for _, s := range samples() {
		changes, greatest := byWhole(s.m, s.trust), 0
		for every := 1; every <= 60; every++ {
			q, _ := decoded(encoded(s.m, s.p, every), changes)
			want := sameLists(q, s.p)
			if is, e := stream.Sent(s.m, s.p, every, s.trust); e != api.OK || is != want {
				t.Error("Sent", s.m, s.p, every, s.trust, is, e)
			}
			if want {
				sent++
			} else {
				unsent++
			}
			if want && every <= len(s.p) {
				greatest = every
			}
		}
		if every, e := stream.Sparsest(s.m, s.p, s.trust); e != api.OK || every != greatest {
			t.Error("Sparsest", s.m, s.p, s.trust, every, e, "not", greatest)
		}
	}
	if sent < 500 || unsent < 500 {
		t.Error("too few of one kind:", sent, unsent)
	}
}

// stepped are pictures that change at the given indexes by all pixels, and so are not told by a trust of 0.
func stepped(count int, at ...int) [][]int {
	p := [][]int{{0, 0, 0}}
	for len(p) < count {
		x := slices.Clone(p[len(p)-1])
		if slices.Contains(at, len(p)) {
			x = sumOf(x, []int{1, 1, 1})
		}
		p = append(p, x)
	}
	return p
}

func TestSparsest(t *testing.T) {
	for _, c := range []struct {
		p           [][]int
		trust, want int
	}{
		{stepped(1), 0, 1},
		{stepped(2), 0, 2},
		{stepped(2, 1), 0, 1},
		{stepped(3, 1), 0, 1},
		{stepped(3, 2), 0, 2},
		{stepped(5, 4), 0, 4}, // and 2, but not 3
		{stepped(7, 6), 0, 6}, // and 3, 2, but neither 5 nor 4
		{stepped(8, 6), 0, 6},
		{stepped(12, 6), 0, 6},
		{stepped(13, 6, 12), 0, 6},
		{stepped(13, 6, 9), 0, 3},
		{stepped(13, 6, 10), 0, 2},
		{stepped(13, 6, 11), 0, 1},
		{stepped(60), 0, 60},
		{stepped(60, 59), 0, 59},
		{stepped(60, 58), 0, 58},
		{stepped(60, 30), 0, 30},
		{stepped(60, 30, 45), 0, 15},
		{stepped(60, 1), 0, 1},
		{stepped(60, 59, 58), 0, 1},
		{example(1, 1).p, 1, 3},
		{example(1, 1).p, 0, 1},
		{example(1, 1).p, 2, 1},
	} {
		if every, e := stream.Sparsest(three(), c.p, c.trust); e != api.OK || every != c.want {
			t.Error("Sparsest", c.p, c.trust, every, e, "not", c.want)
		}
		for every := 1; every <= 60; every++ {
			is, e := stream.Sent(three(), c.p, every, c.trust)
			if e != api.OK || every == c.want && !is || every > c.want && every <= len(c.p) && is {
				t.Error("Sent", c.p, every, c.trust, is, e)
			}
		}
	}
	for _, c := range []struct {
		every int
		want  bool
	}{{5, false}, {4, true}, {3, false}, {2, true}, {1, true}} {
		if is, e := stream.Sent(three(), stepped(5, 4), c.every, 0); e != api.OK || is != c.want {
			t.Error("Sent", c.every, is, e)
		}
	}
}

// A trust above Sure finds a second picture that makes the reading, so that more trust need not send more.
func TestTrustAboveSure(t *testing.T) {
	m := three()
	if sure, e := sparse.Sure(m); e != api.OK || sure != 1 {
		t.Fatal("Sure", sure, e)
	}
	for trust, want := range []int{1, 3, 1, 1} {
		if every, e := stream.Sparsest(m, example(1, 0).p, trust); e != api.OK || every != want {
			t.Error("Sparsest", trust, every, e)
		}
	}
}
