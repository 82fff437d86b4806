package stream_test

import (
	"math"
	"slices"
	"testing"

	"lightsieve/api"
	"lightsieve/mask"
	"lightsieve/stream"
)

// three is the mask of the document's examples, of which one pixel is sure.
func three() api.Mask {
	return api.Mask{{1, 1, 0}, {0, 1, 1}}
}

// single sees each of so many pixels by itself, so that all of them are sure.
func single(n int) api.Mask {
	m := make(api.Mask, n)
	for i := range m {
		m[i] = unit(n, i, 1)
	}
	return m
}

func key(values ...int) api.Frame {
	return api.Frame{Key: true, Values: values}
}

func read(values ...int) api.Frame {
	return api.Frame{Values: values}
}

func filled(n, value int) []int {
	return slices.Repeat([]int{value}, n)
}

func unit(n, pixel, value int) []int {
	x := filled(n, 0)
	x[pixel] = value
	return x
}

// numbers is a fixed row of numbers that look like chance.
type numbers uint64

func (s *numbers) below(n int) int {
	*s = *s*6364136223846793005 + 1442695040888963407
	return int(uint64(*s)>>33) % n
}

func (s *numbers) from(lo, hi int) int {
	return lo + s.below(hi-lo+1)
}

func (s *numbers) list(n, lo, hi int) []int {
	l := make([]int, n)
	for i := range l {
		l[i] = s.from(lo, hi)
	}
	return l
}

func (s *numbers) mask(rows, pixels int) api.Mask {
	m := make(api.Mask, rows)
	for i := range m {
		m[i] = s.list(pixels, -1, 1)
	}
	return m
}

// pictures change up to so many pixels each time.
func (s *numbers) pictures(pixels, count, most int) [][]int {
	x := s.list(pixels, -3, 3)
	p := [][]int{x}
	for len(p) < count {
		x = slices.Clone(x)
		for range s.below(most + 1) {
			x[s.below(pixels)] = s.from(-5, 5)
		}
		p = append(p, x)
	}
	return p
}

// lossy takes the values of some frames away.
func (s *numbers) lossy(f []api.Frame, oneOf int) []api.Frame {
	f = slices.Clone(f)
	for i := range f {
		if s.below(oneOf) == 0 {
			f[i].Values = nil
		}
	}
	return f
}

// sample is a stream with frames that were made of its pictures, some of them lost, or that were not.
type sample struct {
	m     api.Mask
	p     [][]int
	f     []api.Frame
	trust int
}

// samples have pictures of few changes and of many, and each trust of their masks.
func samples() []sample {
	var all []sample
	s := numbers(8)
	for _, size := range [][2]int{{1, 1}, {1, 2}, {1, 5}, {2, 3}, {2, 2}, {3, 3}, {3, 4}, {4, 6}, {5, 5}, {6, 3}} {
		for trust := range size[1] + 1 {
			m := s.mask(size[0], size[1])
			p := s.pictures(size[1], s.from(1, 9), trust+1)
			f := encoded(m, p, s.from(1, len(p)))
			all = append(all, sample{m, p, f, trust}, sample{m, p, s.lossy(f, 5), trust}, sample{m, p, s.wild(m, s.from(1, 9)), trust})
		}
	}
	return append(all, example(3, 1), example(2, 2), example(1, 0), long())
}

// wild frames are of no pictures.
func (s *numbers) wild(m api.Mask, count int) []api.Frame {
	f := []api.Frame{key(s.list(len(m[0]), -2, 2)...)}
	for len(f) < count {
		if s.below(5) == 0 {
			f = append(f, key(s.list(len(m[0]), -1000, 1000)...))
		} else {
			f = append(f, read(s.list(len(m), -2, 2)...))
		}
	}
	return s.lossy(f, 6)
}

func example(every, trust int) sample {
	p := [][]int{{0, 0, 0}, {0, 5, 0}, {0, 5, 2}}
	return sample{three(), p, encoded(three(), p, every), trust}
}

// long has as many frames as there may be.
func long() sample {
	s := numbers(60)
	m := s.mask(3, 5)
	p := s.pictures(5, 60, 2)
	return sample{m, p, encoded(m, p, 7), 2}
}

// encoded is what Encode must return.
func encoded(m api.Mask, p [][]int, every int) []api.Frame {
	var f []api.Frame
	for i := range p {
		if i%every == 0 {
			f = append(f, key(slices.Clone(p[i])...))
			continue
		}
		var y []int
		for _, row := range m {
			sum := 0
			for j, n := range row {
				sum += n * (p[i][j] - p[i-1][j])
			}
			y = append(y, sum)
		}
		f = append(f, read(y...))
	}
	return f
}

func sameFrames(a, b []api.Frame) bool {
	return slices.EqualFunc(a, b, func(x, y api.Frame) bool { return x.Key == y.Key && slices.Equal(x.Values, y.Values) })
}

func sameLists(a, b [][]int) bool {
	return slices.EqualFunc(a, b, func(x, y []int) bool { return slices.Equal(x, y) })
}

func wrongMasks() []api.Mask {
	return []api.Mask{nil, {}, {{}}, {nil, nil}, {{2, 0, 0}, {0, 1, 0}}, {{1, 0, 0}, {0, -2, 0}}, {{1, 1, 0}, {0, 1}}, {{1, 1, 0}, {0, 1, 1, 0}}, {{1, 1, 0}, nil},
		slices.Repeat(api.Mask{{1, 1, 0}}, 7), {filled(11, 1), filled(11, 0)}, {{math.MinInt, 0, 0}, {1, 1, 1}}}
}

// wrongPictures are none of a stream of the mask three.
func wrongPictures() [][]int {
	return [][]int{nil, {}, {0}, {0, 0}, {0, 0, 0, 0}, filled(10, 0), {1001, 0, 0}, {0, -1001, 0}, {0, 0, 1001}, {-1001, 0, 0}, {0, 0, 1000000}, {math.MinInt, 0, 0}, {0, 0, math.MaxInt}}
}

// wrongFrames are none of the mask three, wherever they are.
func wrongFrames() []api.Frame {
	wrong := []api.Frame{read(0), read(0, 0, 0), read(0, 0, 0, 0), read(1000001, 0), read(0, -1000001), read(0, 1000001), read(-1000001, 0), read(math.MinInt, 0), read(0, math.MaxInt), read(filled(100, 0)...)}
	for _, p := range wrongPictures() {
		if len(p) > 0 {
			wrong = append(wrong, key(p...))
		}
	}
	return wrong
}

func TestExamples(t *testing.T) {
	m, p := three(), example(3, 1).p
	f, e := stream.Encode(m, p, 3)
	if want := []api.Frame{key(0, 0, 0), read(5, 5), read(0, 2)}; e != api.OK || !sameFrames(f, want) {
		t.Error("Encode", f, e)
	}
	if q, told, e := stream.Decode(m, f, 1); e != api.OK || !sameLists(q, p) || !slices.Equal(told, []bool{true, true, true}) {
		t.Error("Decode", q, told, e)
	}
	lossy, e := stream.Lose(m, f, 1)
	if e != api.OK || !sameFrames(lossy, []api.Frame{key(0, 0, 0), read(), read(0, 2)}) {
		t.Error("Lose", lossy, e)
	}
	if l, e := stream.Missing(m, lossy, 1); e != api.OK || !slices.Equal(l, []int{1, 2}) {
		t.Error("Missing", l, e)
	}
}

func TestValidPictures(t *testing.T) {
	right := []int{0, 1000, -1000}
	for _, n := range []int{1, 2, 59, 60} {
		if !stream.ValidPictures(three(), slices.Repeat([][]int{right}, n)) {
			t.Error("not valid:", n)
		}
	}
	for _, n := range []int{0, 61, 62, 1000} {
		if stream.ValidPictures(three(), slices.Repeat([][]int{right}, n)) {
			t.Error("valid:", n)
		}
	}
	for _, wrong := range wrongPictures() {
		for _, p := range [][][]int{{wrong}, {right, wrong}, {wrong, right}, {right, wrong, right}} {
			if stream.ValidPictures(three(), p) {
				t.Error("valid:", p)
			}
		}
	}
	for _, m := range wrongMasks() {
		if stream.ValidPictures(m, [][]int{right}) {
			t.Error("valid for", m)
		}
	}
	for n := 1; n <= 10; n++ {
		for pixels := 1; pixels <= 11; pixels++ {
			if is := stream.ValidPictures(api.Mask{filled(n, 1)}, [][]int{filled(pixels, -1000)}); is != (n == pixels) {
				t.Error(pixels, "pixels for", n, is)
			}
		}
	}
}

func TestValid(t *testing.T) {
	for _, f := range [][]api.Frame{
		{key(0, 0, 0)}, {key()}, {{Key: true, Values: []int{}}}, {key(1000, -1000, 0)},
		{key(), read()}, {key(), {Values: []int{}}}, {key(), key()}, {key(), read(1, 1)}, {key(1, 2, 3), read(1000000, -1000000)},
		{key(0, 0, 0), read(0, 0), key(), read(5, 5), key(7, 7, 7), read(), read(1, 0)},
		slices.Repeat([]api.Frame{key(1, 2, 3)}, 60), slices.Repeat([]api.Frame{key()}, 60), append([]api.Frame{key()}, slices.Repeat([]api.Frame{read(1, 2)}, 59)...),
	} {
		if !stream.Valid(three(), f) {
			t.Error("not valid:", f)
		}
	}
	for _, f := range [][]api.Frame{
		nil, {}, {read()}, {read(0, 0)}, {read(0, 0, 0)}, {read(), key(0, 0, 0)}, {{}}, {{Values: []int{}}}, {read(), read()},
		slices.Repeat([]api.Frame{key(1, 2, 3)}, 61), slices.Repeat([]api.Frame{key()}, 61), append([]api.Frame{key()}, slices.Repeat([]api.Frame{read(1, 2)}, 60)...), slices.Repeat([]api.Frame{key()}, 1000),
	} {
		if stream.Valid(three(), f) {
			t.Error("valid:", f)
		}
	}
	for _, wrong := range wrongFrames() {
		for _, f := range [][]api.Frame{{wrong}, {key(0, 0, 0), wrong}, {key(), wrong}, {wrong, key()}, {key(0, 0, 0), read(0, 0), wrong, key()}} {
			if stream.Valid(three(), f) {
				t.Error("valid:", f)
			}
		}
	}
	for _, m := range wrongMasks() {
		for _, f := range [][]api.Frame{{key()}, {key(0, 0, 0)}, {key(), read(0, 0)}} {
			if stream.Valid(m, f) {
				t.Error("valid for", m, f)
			}
		}
	}
}

// A key has a number for each pixel, and the others one for each row.
func TestLengthsOfFrames(t *testing.T) {
	for rows := 1; rows <= 6; rows++ {
		for pixels := 1; pixels <= 10; pixels++ {
			m := slices.Repeat(api.Mask{filled(pixels, 1)}, rows)
			for n := 1; n <= 11; n++ {
				if is := stream.Valid(m, []api.Frame{key(filled(n, 1)...)}); is != (n == pixels) {
					t.Error("key of", n, "for", rows, pixels, is)
				}
				if is := stream.Valid(m, []api.Frame{key(), read(filled(n, 1)...)}); is != (n == rows) {
					t.Error("read of", n, "for", rows, pixels, is)
				}
			}
		}
	}
}

func TestEncode(t *testing.T) {
	p := [][]int{{0, 0, 0}, {1, 0, 0}, {1, -1000, 0}, {1, 1000, 1000}, {1, 1000, 1000}}
	for _, c := range []struct {
		every int
		want  []api.Frame
	}{
		{1, []api.Frame{key(0, 0, 0), key(1, 0, 0), key(1, -1000, 0), key(1, 1000, 1000), key(1, 1000, 1000)}},
		{2, []api.Frame{key(0, 0, 0), read(1, 0), key(1, -1000, 0), read(2000, 3000), key(1, 1000, 1000)}},
		{3, []api.Frame{key(0, 0, 0), read(1, 0), read(-1000, -1000), key(1, 1000, 1000), read(0, 0)}},
		{4, []api.Frame{key(0, 0, 0), read(1, 0), read(-1000, -1000), read(2000, 3000), key(1, 1000, 1000)}},
		{5, []api.Frame{key(0, 0, 0), read(1, 0), read(-1000, -1000), read(2000, 3000), read(0, 0)}},
		{6, []api.Frame{key(0, 0, 0), read(1, 0), read(-1000, -1000), read(2000, 3000), read(0, 0)}},
		{60, []api.Frame{key(0, 0, 0), read(1, 0), read(-1000, -1000), read(2000, 3000), read(0, 0)}},
	} {
		if f, e := stream.Encode(three(), p, c.every); e != api.OK || !sameFrames(f, c.want) {
			t.Error("Encode", c.every, f, e)
		}
	}
	for every := 1; every <= 60; every++ {
		if f, e := stream.Encode(three(), p[2:3], every); e != api.OK || !sameFrames(f, []api.Frame{key(1, -1000, 0)}) {
			t.Error("Encode of one picture", every, f, e)
		}
	}
}

func TestEncodeOfSamples(t *testing.T) {
	for _, s := range samples() {
		for every := 1; every <= 60; every++ {
			f, e := stream.Encode(s.m, s.p, every)
			if e != api.OK || !sameFrames(f, encoded(s.m, s.p, every)) || !stream.Valid(s.m, f) {
				t.Error("Encode", s.m, s.p, every, f, e)
			}
		}
	}
}

// The greatest readings of changes are valid as well.
func TestEncodeOfGreatChanges(t *testing.T) {
	m := api.Mask{filled(10, 1), filled(10, -1)}
	f, e := stream.Encode(m, [][]int{filled(10, -1000), filled(10, 1000), filled(10, -1000)}, 60)
	if want := []api.Frame{key(filled(10, -1000)...), read(20000, -20000), read(-20000, 20000)}; e != api.OK || !sameFrames(f, want) || !stream.Valid(m, f) {
		t.Error("Encode", f, e)
	}
}

func TestCost(t *testing.T) {
	for _, c := range []struct {
		f []api.Frame
		n int
	}{
		{[]api.Frame{key(0, 0, 0)}, 3},
		{[]api.Frame{key()}, 0},
		{[]api.Frame{key(1, 2, 3), read(0, 0), read(5, 5)}, 7},
		{[]api.Frame{key(1, 2, 3), read(), read(5, 5), key(), key(1, 1, 1)}, 8},
		{slices.Repeat([]api.Frame{key(1, 2, 3)}, 60), 180},
	} {
		if n, e := stream.Cost(three(), c.f); e != api.OK || n != c.n {
			t.Error("Cost", c.f, n, e)
		}
	}
	for _, s := range samples() {
		if n, e := stream.Cost(s.m, s.f); e != api.OK || n != costOf(s.f) {
			t.Error("Cost", s.f, n, e)
		}
	}
}

func costOf(f []api.Frame) int {
	n := 0
	for _, frame := range f {
		n += len(frame.Values)
	}
	return n
}

func TestKeys(t *testing.T) {
	for _, c := range []struct {
		f    []api.Frame
		keys []int
	}{
		{[]api.Frame{key(0, 0, 0)}, []int{0}},
		{[]api.Frame{key()}, []int{0}},
		{[]api.Frame{key(), read(), read(1, 1)}, []int{0}},
		{[]api.Frame{key(0, 0, 0), read(), key(), read(1, 1), key(1, 1, 1), key()}, []int{0, 2, 4, 5}},
		{slices.Repeat([]api.Frame{key()}, 3), []int{0, 1, 2}},
	} {
		if keys, e := stream.Keys(three(), c.f); e != api.OK || !slices.Equal(keys, c.keys) {
			t.Error("Keys", c.f, keys, e)
		}
	}
	for every := 1; every <= 60; every++ {
		var want []int
		for i := 0; i < 60; i += every {
			want = append(want, i)
		}
		s := long()
		if keys, e := stream.Keys(s.m, encoded(s.m, s.p, every)); e != api.OK || !slices.Equal(keys, want) {
			t.Error("Keys", every, keys, e)
		}
	}
}

func TestJoined(t *testing.T) {
	a, b := []api.Frame{key(0, 0, 0), read(5, 5)}, []api.Frame{key(), read(1, 1), key(7, 8, 9)}
	for _, c := range []struct{ a, b, want []api.Frame }{
		{a, b, []api.Frame{key(0, 0, 0), read(5, 5), key(), read(1, 1), key(7, 8, 9)}},
		{b, a, []api.Frame{key(), read(1, 1), key(7, 8, 9), key(0, 0, 0), read(5, 5)}},
		{a, a, []api.Frame{key(0, 0, 0), read(5, 5), key(0, 0, 0), read(5, 5)}},
		{a[:1], b[:1], []api.Frame{key(0, 0, 0), key()}},
	} {
		if f, e := stream.Joined(three(), c.a, c.b); e != api.OK || !sameFrames(f, c.want) {
			t.Error("Joined", c.a, c.b, f, e)
		}
	}
	for i := range 60 {
		for j := range 60 {
			x, y := slices.Repeat([]api.Frame{key(1, 0, 0)}, i+1), slices.Repeat([]api.Frame{key(2, 0, 0)}, j+1)
			f, e := stream.Joined(three(), x, y)
			if i+j+2 > 60 {
				if len(f) != 0 || e != api.ErrLimit {
					t.Error("Joined", i+1, j+1, len(f), e)
				}
			} else if !sameFrames(f, slices.Concat(x, y)) || e != api.OK {
				t.Error("Joined", i+1, j+1, f, e)
			}
		}
	}
}

// P8.5: what joined frames cost, and that they are decoded as both are.
func TestJoinedSamples(t *testing.T) {
	all := samples()
	for _, s := range all[:len(all)-1] {
		other := encoded(s.m, s.p, 2)
		f, e := stream.Joined(s.m, s.f, other)
		n, _ := stream.Cost(s.m, f)
		if e != api.OK || !sameFrames(f, slices.Concat(s.f, other)) || n != costOf(s.f)+costOf(other) {
			t.Error("Joined", s.f, other, f, e)
		}
		p, told, _ := stream.Decode(s.m, f, s.trust)
		a, isA, _ := stream.Decode(s.m, s.f, s.trust)
		b, isB, _ := stream.Decode(s.m, other, s.trust)
		if !sameLists(p, slices.Concat(a, b)) || !slices.Equal(told, slices.Concat(isA, isB)) {
			t.Error("Decode of joined frames", p, a, b)
		}
	}
}

// readingOf is what Read of layer 2 returns, also of changes.
func readingOf(m api.Mask, x []int) []int {
	y, _ := mask.Read(m, x)
	return y
}
