package stream_test

import (
	"slices"
	"testing"

	"lightsieve/api"
	"lightsieve/lin"
	"lightsieve/sparse"
	"lightsieve/stream"
)

// decoded is what Decode must return, by what the changes of a reading are.
func decoded(f []api.Frame, changes func(y []int) [][]int) (p [][]int, told []bool) {
	for i, frame := range f {
		picture := []int(nil)
		switch {
		case len(frame.Values) == 0:
		case frame.Key:
			picture = frame.Values
		case told[i-1]:
			if all := changes(frame.Values); len(all) == 1 {
				picture = sumOf(p[i-1], all[0])
			}
		}
		if picture != nil && (slices.Max(picture) > 1000 || slices.Min(picture) < -1000) {
			picture = nil
		}
		p = append(p, picture)
		told = append(told, picture != nil)
	}
	return p, told
}

func sumOf(x, y []int) []int {
	sum := slices.Clone(x)
	for j, n := range y {
		sum[j] += n
	}
	return sum
}

func untold(told []bool) []int {
	var list []int
	for i, is := range told {
		if !is {
			list = append(list, i)
		}
	}
	return list
}

// byWhole are the changes as layer 4 tells them.
func byWhole(m api.Mask, trust int) func(y []int) [][]int {
	return func(y []int) [][]int {
		all, _ := sparse.Whole(m, y, trust)
		return all
	}
}

func checkDecode(t *testing.T, s sample, changes func(y []int) [][]int) {
	t.Helper()
	p, told := decoded(s.f, changes)
	q, is, e := stream.Decode(s.m, s.f, s.trust)
	if e != api.OK || !sameLists(p, q) || !slices.Equal(told, is) {
		t.Fatal("Decode", s, q, is, e, "not", p, told)
	}
	if l, e := stream.Missing(s.m, s.f, s.trust); e != api.OK || !slices.Equal(l, untold(told)) {
		t.Fatal("Missing", s, l, e)
	}
}

func TestDecode(t *testing.T) {
	m, sum := three(), api.Mask{{1, 1}}
	for _, c := range []struct {
		m     api.Mask
		f     []api.Frame
		trust int
		p     [][]int
	}{
		{m, []api.Frame{key(1, 2, 3)}, 0, [][]int{{1, 2, 3}}},
		{m, []api.Frame{key()}, 3, [][]int{{}}},
		{m, []api.Frame{key(0, 0, 0)}, 3, [][]int{{0, 0, 0}}},
		{m, []api.Frame{key(1, 2, 3), key(4, 5, 6), key(), key(-1000, 1000, 9)}, 0, [][]int{{1, 2, 3}, {4, 5, 6}, {}, {-1000, 1000, 9}}},
		{m, []api.Frame{key(), read(0, 0), read(5, 5), key(7, 7, 7), read(1, 0), key(), read(0, 0), key(1, 1, 1), read(0, 0)}, 1, [][]int{{}, {}, {}, {7, 7, 7}, {8, 7, 7}, {}, {}, {1, 1, 1}, {1, 1, 1}}},
		{m, []api.Frame{key(1, 1, 1), read(), read(0, 0), read(1, 1), key(), read(0, 0), key(2, 2, 2), read(-2, -2)}, 1, [][]int{{1, 1, 1}, {}, {}, {}, {}, {}, {2, 2, 2}, {2, 0, 2}}},
		// with a trust of 0 there is no change but that of no pixels
		{m, []api.Frame{key(1, 2, 3), read(0, 0), read(0, 0), read(1, 0), read(0, 0)}, 0, [][]int{{1, 2, 3}, {1, 2, 3}, {1, 2, 3}, {}, {}}},
		{m, []api.Frame{key(1, 2, 3), read(1, 1)}, 0, [][]int{{1, 2, 3}, {}}},
		// with a trust of 2 also the pixels 0 and 2 make the reading 1 1
		{m, []api.Frame{key(0, 0, 0), read(1, 1), read(0, 0)}, 1, [][]int{{0, 0, 0}, {0, 1, 0}, {0, 1, 0}}},
		{m, []api.Frame{key(0, 0, 0), read(1, 1), read(0, 0)}, 2, [][]int{{0, 0, 0}, {}, {}}},
		{m, []api.Frame{key(0, 0, 0), read(1, 1), read(0, 0)}, 3, [][]int{{0, 0, 0}, {}, {}}},
		{m, []api.Frame{key(0, 0, 0), read(3, 2)}, 1, [][]int{{0, 0, 0}, {}}},
		{m, []api.Frame{key(0, 0, 0), read(3, 2)}, 2, [][]int{{0, 0, 0}, {}}},
		{m, []api.Frame{key(0, 0, 0), read(3, 0)}, 1, [][]int{{0, 0, 0}, {3, 0, 0}}},
		{m, []api.Frame{key(0, 0, 0), read(3, 0)}, 2, [][]int{{0, 0, 0}, {}}},
		// both pixels make it alike, and no columns that depend on each other make a fit
		{sum, []api.Frame{key(0, 0), read(1)}, 1, [][]int{{0, 0}, {}}},
		{sum, []api.Frame{key(0, 0), read(1)}, 2, [][]int{{0, 0}, {}}},
		{sum, []api.Frame{key(4, 5), read(0)}, 2, [][]int{{4, 5}, {4, 5}}},
		{api.Mask{{0}}, []api.Frame{key(4), read(0), read(1)}, 1, [][]int{{4}, {4}, {}}},
		// halves, and readings that no picture has
		{api.Mask{{1, 1}, {1, -1}}, []api.Frame{key(4, 5), read(2, 0), read(1, 0)}, 2, [][]int{{4, 5}, {5, 6}, {}}},
		{api.Mask{{1, 1}, {1, -1}}, []api.Frame{key(4, 5), read(2, 0)}, 1, [][]int{{4, 5}, {}}},
		{api.Mask{{1}, {1}}, []api.Frame{key(4), read(2, 2), read(2, 1)}, 1, [][]int{{4}, {6}, {}}},
		// out of -1,000 to 1,000, and back where it was told
		{m, []api.Frame{key(999, 0, -999), read(1, 0), read(0, -1)}, 1, [][]int{{999, 0, -999}, {1000, 0, -999}, {1000, 0, -1000}}},
		{m, []api.Frame{key(999, 0, -999), read(2, 0), read(-2, 0)}, 1, [][]int{{999, 0, -999}, {}, {}}},
		{m, []api.Frame{key(999, 0, -999), read(0, -2)}, 1, [][]int{{999, 0, -999}, {}}},
		{m, []api.Frame{key(0, 0, 0), read(1001, 0), key(0, 0, 0), read(1000, 0), read(-2000, 0), read(-1, 0)}, 1, [][]int{{0, 0, 0}, {}, {0, 0, 0}, {1000, 0, 0}, {-1000, 0, 0}, {}}},
		{m, []api.Frame{key(0, 0, 0), read(1000000, 1000000), key(0, 1, 0), read(0, -1000000), key(1, 0, 0), read(0, 0)}, 1, [][]int{{0, 0, 0}, {}, {0, 1, 0}, {}, {1, 0, 0}, {1, 0, 0}}},
		// a whole change is told where all pixels are sure
		{single(3), []api.Frame{key(-1000, -1000, -1000), read(2000, 2000, 2000), read(-1, -2, -3)}, 3, [][]int{{-1000, -1000, -1000}, {1000, 1000, 1000}, {999, 998, 997}}},
		{single(3), []api.Frame{key(-1000, -1000, -1000), read(2000, 2000, 2000)}, 2, [][]int{{-1000, -1000, -1000}, {}}},
	} {
		p, told, e := stream.Decode(c.m, c.f, c.trust)
		want := make([]bool, len(c.p))
		for i, picture := range c.p {
			want[i] = len(picture) > 0
		}
		if e != api.OK || !sameLists(p, c.p) || !slices.Equal(told, want) {
			t.Error("Decode", c.f, c.trust, p, told, e, "not", c.p)
		}
		if l, e := stream.Missing(c.m, c.f, c.trust); e != api.OK || !slices.Equal(l, untold(want)) {
			t.Error("Missing", c.f, c.trust, l, e)
		}
	}
}

func TestDecodeOfSamples(t *testing.T) {
	for _, s := range samples() {
		for s.trust = range len(s.m[0]) + 1 {
			checkDecode(t, s, byWhole(s.m, s.trust))
		}
	}
}

// byTrial are the changes by the definition: all whole pictures in a box that holds each fit of a small reading.
func byTrial(m api.Mask, trust, reach int) func(y []int) [][]int {
	return func(y []int) [][]int {
		var all [][]int
		x := filled(len(m[0]), 0)
		var place func(j, left int)
		place = func(j, left int) {
			if j == len(x) {
				if slices.Equal(readingOf(m, x), y) && independent(m, x) {
					all = append(all, slices.Clone(x))
				}
				return
			}
			x[j] = 0
			place(j+1, left)
			for n := -reach; n <= reach && left > 0; n++ {
				if n != 0 {
					x[j] = n
					place(j+1, left-1)
				}
			}
			x[j] = 0
		}
		place(0, trust)
		return all
	}
}

// independent reports whether no other numbers on a picture's pixels than zeros make a reading of zeros.
func independent(m api.Mask, x []int) bool {
	var try func(j int, any bool, z []int) bool
	try = func(j int, any bool, z []int) bool {
		if j == len(x) {
			return !any || slices.ContainsFunc(readingOf(m, z), func(n int) bool { return n != 0 })
		}
		for n := -2; n <= 2; n++ {
			if x[j] != 0 || n == 0 {
				z[j] = n
				if !try(j+1, any || n != 0, z) {
					return false
				}
			}
		}
		return true
	}
	return try(0, false, make([]int, len(x)))
}

// All readings of small numbers of all masks with up to two rows and two pixels, and of some with more.
func TestDecodeByTrial(t *testing.T) {
	s := numbers(1)
	for _, m := range append(smallMasks(), s.mask(1, 3), s.mask(2, 3), s.mask(2, 3), s.mask(2, 4), three()) {
		for trust := range len(m[0]) + 1 {
			changes := byTrial(m, trust, 4)
			for y := range readings(len(m), 2) {
				before := s.list(len(m[0]), -2, 2)
				checkDecode(t, sample{m: m, f: []api.Frame{key(before...), read(y...), read(filled(len(m), 0)...)}, trust: trust}, changes)
			}
		}
	}
}

func smallMasks() []api.Mask {
	var all []api.Mask
	for pixels := 1; pixels <= 2; pixels++ {
		for a := range readings(pixels, 1) {
			all = append(all, api.Mask{slices.Clone(a)})
			for b := range readings(pixels, 1) {
				all = append(all, api.Mask{slices.Clone(a), slices.Clone(b)})
			}
		}
	}
	return all
}

// readings yields all lists of so many numbers that are not further than reach from 0.
func readings(n, reach int) func(yield func([]int) bool) {
	return func(yield func([]int) bool) {
		y := filled(n, -reach)
		for yield(slices.Clone(y)) {
			i := 0
			for i < n && y[i] == reach {
				y[i] = -reach
				i++
			}
			if i == n {
				return
			}
			y[i]++
		}
	}
}

// P8.2: with a trust that is sure the pictures whose changes are no greater are told as they were.
func TestSure(t *testing.T) {
	s := numbers(2)
	checked := 0
	for range 150 {
		m := s.mask(s.from(1, 6), s.from(1, 7))
		sure, e := sparse.Sure(m)
		if e != api.OK {
			t.Fatal("Sure", m, e)
		}
		for trust := range sure + 1 {
			p := s.pictures(len(m[0]), s.from(1, 8), trust)
			for every := 1; every <= len(p)+1; every++ {
				if is, e := stream.Sent(m, p, every, trust); e != api.OK || !is {
					t.Error("Sent", m, p, every, trust, is, e)
				}
			}
			if every, e := stream.Sparsest(m, p, trust); e != api.OK || every != len(p) {
				t.Error("Sparsest", m, p, trust, every, e)
			}
			if trust > 0 {
				checked++
			}
		}
	}
	if checked < 100 {
		t.Error("too few masks with pixels that are sure:", checked)
	}
}

// P7: with losses, what is told is right, and the others are missing.
func TestToldOrMissing(t *testing.T) {
	s := numbers(3)
	for range 150 {
		m := s.mask(s.from(2, 6), s.from(1, 6))
		sure, _ := sparse.Sure(m)
		p := s.pictures(len(m[0]), s.from(1, 9), sure)
		f := s.lossy(encoded(m, p, s.from(1, 5)), 4)
		q, told, e := stream.Decode(m, f, sure)
		hidden := true
		for i := range p {
			lost := len(f[i].Values) == 0
			hidden = lost || hidden && !f[i].Key
			want := p[i]
			if hidden {
				want = nil
			}
			if e != api.OK || told[i] == hidden || !slices.Equal(q[i], want) {
				t.Error("Decode", m, p, f, i, q[i], told[i], e)
			}
		}
	}
}

// Where the columns of a mask depend on each other, and the trust is above Sure, what is told need not be right.
func TestToldAndWrong(t *testing.T) {
	for _, c := range []struct {
		m     api.Mask
		p     [][]int
		trust int
		want  [][]int
	}{
		{api.Mask{{1, 1}}, [][]int{{0, 0}, {1, -1}}, 2, [][]int{{0, 0}, {0, 0}}},
		{api.Mask{{1, 1}}, [][]int{{0, 0}, {5, -5}, {5, -5}}, 1, [][]int{{0, 0}, {0, 0}, {0, 0}}},
		{three(), [][]int{{0, 0, 0}, {1, -1, 1}}, 3, [][]int{{0, 0, 0}, {0, 0, 0}}},
		{api.Mask{{1, 0, 1}, {0, 1, 1}, {0, 0, 0}}, [][]int{{7, 7, 7}, {6, 6, 8}}, 2, [][]int{{7, 7, 7}, {7, 7, 7}}},
		// here the change has more pixels than the trust
		{three(), [][]int{{0, 0, 0}, {1, 0, 1}, {1, 0, 2}}, 1, [][]int{{0, 0, 0}, {0, 1, 0}, {0, 1, 1}}},
	} {
		f := encoded(c.m, c.p, 60)
		p, told, e := stream.Decode(c.m, f, c.trust)
		if e != api.OK || !sameLists(p, c.want) || slices.Contains(told, false) {
			t.Error("Decode", c.m, f, p, told, e)
		}
		if l, e := stream.Missing(c.m, f, c.trust); e != api.OK || len(l) != 0 {
			t.Error("Missing", c.m, f, l, e)
		}
		if is, e := stream.Sent(c.m, c.p, 60, c.trust); e != api.OK || is {
			t.Error("Sent", c.m, c.p, is, e)
		}
		if is, e := stream.Sent(c.m, c.p, 1, c.trust); e != api.OK || !is {
			t.Error("Sent with keys alone", c.m, c.p, is, e)
		}
	}
}

// The greatest mask has the most columns to try, and there are as many readings as there may be.
func TestGreatestStream(t *testing.T) {
	m := api.Mask{
		{1, 1, 0, -1, 0, 1, 0, 1, -1, 0}, {0, 1, 1, 0, -1, 0, 1, -1, 1, 0}, {1, 0, -1, 1, 1, 0, 0, 1, 1, 1},
		{-1, 1, 0, 0, 1, 1, 1, 0, 0, -1}, {0, 0, 1, 1, 0, -1, 1, 1, 0, 1}, {1, -1, 1, 0, 1, 1, 0, 0, -1, 1},
	}
	if rank, e := lin.Rank(m); e != api.OK || rank != 6 {
		t.Fatal("Rank", rank, e)
	}
	s := numbers(4)
	p := s.pictures(10, 60, 1)
	for _, trust := range []int{0, 2, 10} {
		checkDecode(t, sample{m: m, f: encoded(m, p, 60), trust: trust}, byWhole(m, trust))
		checkDecode(t, sample{m: m, f: encoded(m, p, 9), trust: trust}, byWhole(m, trust))
	}
}
