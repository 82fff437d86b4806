package lin_test

import (
	"cmp"
	"slices"
	"testing"

	"lightsieve/api"
	"lightsieve/lin"
	"lightsieve/mask"
)

func TestCircuits(t *testing.T) {
	for _, c := range []struct {
		m     api.Mask
		want  [][]int
		spark int
	}{
		{two(), [][]int{{1, -1, 1}}, 3},
		{api.Mask{{1, 1, 1}}, [][]int{{1, -1, 0}, {1, 0, -1}, {0, 1, -1}}, 2},
		{api.Mask{{1, -1, 0}}, [][]int{{0, 0, 1}, {1, 1, 0}}, 1},
		{api.Mask{{0}}, [][]int{{1}}, 1}, {api.Mask{{0, 0}, {0, 0}}, [][]int{{1, 0}, {0, 1}}, 1},
		{api.Mask{{1, 1, 0, 1}, {0, 0, 0, 1}}, [][]int{{0, 0, 1, 0}, {1, -1, 0, 0}}, 1},
		{api.Mask{{1, 1, 1}, {1, -1, 0}}, [][]int{{1, 1, -2}}, 3},
		// By how many pixels they have, and then by which.
		{api.Mask{{1, 0, 1, 1}, {0, 1, 1, 1}}, [][]int{{0, 0, 1, -1}, {1, 1, -1, 0}, {1, 1, 0, -1}}, 2},
		{api.Mask{{1, 0, 0, 1, 1}, {0, 1, 0, 1, 0}, {0, 0, 1, 1, 1}}, [][]int{{1, 0, 1, 0, -1}, {0, 1, 0, -1, 1}, {1, 1, 1, -1, 0}}, 3},
	} {
		all, e := lin.Circuits(c.m)
		if e != api.OK || !equalLists(all, c.want) {
			t.Error("Circuits", c.m, all, e)
		}
		if spark, e := lin.Spark(c.m); spark != c.spark || e != api.OK {
			t.Error("Spark", c.m, spark, e)
		}
		if first, e := lin.Circuit(c.m); !slices.Equal(first, c.want[0]) || e != api.OK {
			t.Error("Circuit", c.m, first, e)
		}
	}
	for _, m := range []api.Mask{{{1}}, {{-1}, {0}}, {{1, 1}, {1, -1}}, steep()} {
		checkNoCircuits(t, m)
	}
	for _, m := range wrongMasks() {
		all, e := lin.Circuits(m)
		first, f := lin.Circuit(m)
		spark, g := lin.Spark(m)
		if len(all) != 0 || len(first) != 0 || spark != 0 || e != api.ErrInvalid || f != api.ErrInvalid || g != api.ErrInvalid {
			t.Error("Circuits", m, all, e, first, f, spark, g)
		}
	}
}

func checkNoCircuits(t *testing.T, m api.Mask) {
	t.Helper()
	all, e := lin.Circuits(m)
	first, f := lin.Circuit(m)
	spark, g := lin.Spark(m)
	if len(all) != 0 || e != api.OK || len(first) != 0 || f != api.ErrNone || spark != 0 || g != api.ErrNone {
		t.Fatal("Circuits where there are none", m, all, e, first, f, spark, g)
	}
}

// circuitSets are the dependent sets of pixels that are independent without any one, in the order of Circuits.
func circuitSets(m api.Mask) [][]int {
	var found [][]int
	for _, pixels := range subsets(len(m[0])) {
		dependent := rankOf(columnsOf(m, pixels)) < len(pixels)
		if dependent && !slices.ContainsFunc(pixels, func(j int) bool { return rankOf(columnsOf(m, without(pixels, j))) < len(pixels)-1 }) {
			found = append(found, pixels)
		}
	}
	slices.SortFunc(found, func(a, b []int) int { return cmp.Or(cmp.Compare(len(a), len(b)), slices.Compare(a, b)) })
	return found
}

// P3.3. There is just one primitive kernel vector on the pixels of a circuit.
func TestCircuitsOfAnyMask(t *testing.T) {
	for _, m := range masks() {
		all, e := lin.Circuits(m)
		sets := circuitSets(m)
		if e != api.OK || len(all) != len(sets) {
			t.Fatal("Circuits", m, all, e, sets)
		}
		if len(all) == 0 {
			checkNoCircuits(t, m)
			continue
		}
		for i, h := range all {
			if len(h) != len(m[0]) || !slices.Equal(support(h), sets[i]) || !zeros(readOf(m, h)) || h[sets[i][0]] <= 0 || divisorOf(h) != 1 {
				t.Fatal("Circuits", m, h, sets[i])
			}
			if !lin.IsKernel(m, h) || !lin.Primitive(h) {
				t.Fatal("Circuits with no primitive kernel vector", m, h)
			}
		}
		if first, e := lin.Circuit(m); !slices.Equal(first, all[0]) || e != api.OK {
			t.Fatal("Circuit", m, first, e)
		}
		if spark, e := lin.Spark(m); spark != len(sets[0]) || e != api.OK {
			t.Fatal("Spark", m, spark, e)
		}
	}
}

func TestFewerThanSpark(t *testing.T) {
	for _, m := range largeMasks() {
		spark, e := lin.Spark(m)
		if e == api.ErrNone {
			spark = len(m[0]) + 1
		}
		dependent := false
		for _, pixels := range subsets(len(m[0])) {
			is, _ := lin.Independent(m, pixels)
			if len(pixels) < spark && !is {
				t.Fatal("fewer columns than the spark depend on each other", m, pixels)
			}
			dependent = dependent || len(pixels) == spark && !is
		}
		if dependent != (e == api.OK) {
			t.Fatal("Spark", m, spark, e)
		}
	}
}

// P3.6.
func TestPermutedCircuits(t *testing.T) {
	var s numbers
	for _, m := range largeMasks() {
		order := s.order(len(m[0]))
		permuted, _ := mask.Permuted(m, order)
		all, _ := lin.Circuits(m)
		moved, e := lin.Circuits(permuted)
		var want [][]int
		for _, h := range all {
			want = append(want, firstAbove(chosen(h, order)))
		}
		slices.SortFunc(want, slices.Compare[[]int])
		slices.SortFunc(moved, slices.Compare[[]int])
		if e != api.OK || !equalLists(moved, want) {
			t.Fatal("Circuits of a permuted mask", m, order, moved, want)
		}
	}
}

func chosen(l, order []int) []int {
	c := make([]int, len(order))
	for k, j := range order {
		c[k] = l[j]
	}
	return c
}

// firstAbove turns the signs of a list so that its first number but 0 is above 0.
func firstAbove(h []int) []int {
	if h[support(h)[0]] > 0 {
		return h
	}
	turned := make([]int, len(h))
	for j, n := range h {
		turned[j] = -n
	}
	return turned
}
