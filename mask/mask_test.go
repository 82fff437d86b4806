package mask_test

import (
	"math"
	"slices"
	"testing"

	"lightsieve/api"
	"lightsieve/mask"
)

const (
	top     = api.MaxValue
	topBack = 1000000000
)

func filled(n, value int) []int {
	return slices.Repeat([]int{value}, n)
}

func turned(l []int) []int {
	opposite := make([]int, len(l))
	for i, n := range l {
		opposite[i] = -n
	}
	return opposite
}

func added(a, b []int) []int {
	sum := make([]int, len(a))
	for i, n := range a {
		sum[i] = n + b[i]
	}
	return sum
}

func dot(a, b []int) int {
	sum := 0
	for i := range a {
		sum += a[i] * b[i]
	}
	return sum
}

// full is a mask with the same number everywhere.
func full(rows, pixels, value int) api.Mask {
	m := make(api.Mask, rows)
	for i := range m {
		m[i] = filled(pixels, value)
	}
	return m
}

func same(a, b api.Mask) bool {
	return slices.EqualFunc(a, b, func(x, y []int) bool { return slices.Equal(x, y) })
}

// numbers is a fixed row of numbers that look like chance.
type numbers uint64

func (s *numbers) below(n int) int {
	*s = *s*6364136223846793005 + 1442695040888963407
	return int(uint64(*s)>>33) % n
}

func (s *numbers) list(n, limit int) []int {
	l := make([]int, n)
	for i := range l {
		l[i] = s.below(2*limit+1) - limit
	}
	return l
}

func (s *numbers) mask(rows, pixels int) api.Mask {
	m := make(api.Mask, rows)
	for i := range m {
		m[i] = s.list(pixels, 1)
	}
	return m
}

func (s *numbers) anyMask() api.Mask {
	return s.mask(1+s.below(api.MaxRows), 1+s.below(api.MaxPixels))
}

// order is each number below n once.
func (s *numbers) order(n int) []int {
	var l []int
	for i := range n {
		l = slices.Insert(l, s.below(i+1), i)
	}
	return l
}

// subset is some of the numbers below n, ascending, and maybe none.
func (s *numbers) subset(n int) []int {
	var l []int
	for i := range n {
		if s.below(2) == 0 {
			l = append(l, i)
		}
	}
	return l
}

// smallMasks are all masks of up to six numbers.
func smallMasks() []api.Mask {
	var masks []api.Mask
	for rows := 1; rows <= 6; rows++ {
		for pixels := 1; rows*pixels <= 6; pixels++ {
			count := 1
			for range rows * pixels {
				count *= 3
			}
			for code := range count {
				m := full(rows, pixels, 0)
				rest := code
				for i := range rows * pixels {
					m[i/pixels][i%pixels] = rest%3 - 1
					rest /= 3
				}
				masks = append(masks, m)
			}
		}
	}
	return masks
}

// masks are small ones, ones of any form, and those with the most rows and pixels.
func masks() []api.Mask {
	var s numbers
	some := []api.Mask{{{1}}, {{-1}}, {{0}}, {{1, -1, 0}}, {{1, 1, 0}, {0, 1, 1}}}
	for _, n := range []int{-1, 0, 1} {
		some = append(some, full(6, 10, n), full(1, 10, n), full(6, 1, n))
	}
	for range 200 {
		some = append(some, s.anyMask())
	}
	return append(some, s.mask(6, 10), s.mask(6, 10), s.mask(5, 10), s.mask(6, 9))
}

func wrongMasks() []api.Mask {
	return []api.Mask{
		nil, {}, {nil}, {{}}, {{}, {}}, {{}, {1}}, {{1}, nil}, {{1}, {}}, {nil, {1}},
		full(7, 1, 1), full(7, 10, 0), full(100, 3, 1), full(1, 11, 1), full(6, 11, 0), full(2, 1000, 0), full(7, 11, 1),
		{{1, 0}, {1}}, {{1}, {1, 0}}, {{1, 0, 1}, {1, 0, 1}, {1, 0}}, {{1, 0}, {1, 0}, {1, 0}, {1, 0}, {1, 0}, {1, 0, 1}},
		{{1}, filled(11, 1)}, {filled(10, 1), filled(11, 1)},
		{{2}}, {{-2}}, {{1, 0, 2}}, {{1, 0}, {0, -2}}, {{3, 1}, {1, 1}}, {{math.MaxInt}}, {{math.MinInt}}, {{0, 0}, {math.MinInt, 0}}, {{256}}, {{1 << 32}}, {{-1 << 32}},
	}
}

func TestValid(t *testing.T) {
	for rows := range 9 {
		for pixels := range 13 {
			for n := -3; n <= 3; n++ {
				want := rows >= 1 && rows <= 6 && pixels >= 1 && pixels <= 10 && n >= -1 && n <= 1
				if mask.Valid(full(rows, pixels, n)) != want {
					t.Error("Valid", rows, pixels, n, !want)
				}
			}
		}
	}
	for _, m := range wrongMasks() {
		if mask.Valid(m) {
			t.Error("Valid", m)
		}
	}
	for i := range 6 {
		for j := range 10 {
			for _, n := range []int{-2, 2} {
				m := full(6, 10, 1)
				m[i][j] = n
				if mask.Valid(m) {
					t.Error("Valid with", n, "at", i, j)
				}
			}
		}
		for _, length := range []int{0, 9, 11} {
			m := full(6, 10, 1)
			m[i] = filled(length, 1)
			if mask.Valid(m) {
				t.Error("Valid with a row of", length, "at", i)
			}
		}
	}
}

func TestRowsAndPixels(t *testing.T) {
	for rows := 1; rows <= 6; rows++ {
		for pixels := 1; pixels <= 10; pixels++ {
			m := full(rows, pixels, -1)
			if n, e := mask.Rows(m); n != rows || e != api.OK {
				t.Error("Rows", rows, pixels, n, e)
			}
			if n, e := mask.Pixels(m); n != pixels || e != api.OK {
				t.Error("Pixels", rows, pixels, n, e)
			}
		}
	}
	for _, m := range wrongMasks() {
		if n, e := mask.Rows(m); n != 0 || e != api.ErrInvalid {
			t.Error("Rows", m, n, e)
		}
		if n, e := mask.Pixels(m); n != 0 || e != api.ErrInvalid {
			t.Error("Pixels", m, n, e)
		}
	}
}

// A picture is not shown if its length is wrong, or one of its numbers.
func TestShownAndErrorsOfRead(t *testing.T) {
	check := func(m api.Mask, x []int, want api.Errno) {
		t.Helper()
		if ok := mask.Shown(m, x); ok != (want == api.OK) {
			t.Error("Shown", m, x, ok)
		}
		if y, e := mask.Read(m, x); e != want || e != api.OK && len(y) != 0 {
			t.Error("Read", m, x, y, e)
		}
	}
	for _, m := range []api.Mask{{{1}}, {{1, 0, -1}}, full(6, 10, 0), full(2, 3, 1), full(3, 2, 1)} {
		pixels := len(m[0])
		for length := range 14 {
			want := api.OK
			if length != pixels {
				want = api.ErrSize
			}
			check(m, filled(length, 7), want)
			check(m, filled(length, top), want)
			check(m, filled(length, -top), want)
			if want == api.OK {
				want = api.ErrRange
			}
			check(m, filled(length, top+1), want)
		}
		for j := range pixels {
			for _, n := range []int{top + 1, -top - 1, math.MaxInt, math.MinInt} {
				x := filled(pixels, 0)
				x[j] = n
				check(m, x, api.ErrRange)
				check(m, append(x, 0), api.ErrSize)
				check(m, append(x, n), api.ErrSize)
			}
		}
		check(m, nil, api.ErrSize)
	}
	for _, m := range wrongMasks() {
		check(m, nil, api.ErrInvalid)
		check(m, []int{5}, api.ErrInvalid)
		check(m, []int{top + 1}, api.ErrInvalid)
		if len(m) > 0 {
			check(m, filled(len(m[0]), 0), api.ErrInvalid)
		}
	}
}

func TestRead(t *testing.T) {
	for _, c := range []struct {
		m    api.Mask
		x, y []int
	}{
		{api.Mask{{1, -1, 0}}, []int{5, 2, 9}, []int{3}},
		{api.Mask{{1, 1, 0}, {0, 1, 1}}, []int{5, 2, 9}, []int{7, 11}},
		{api.Mask{{1, 1, 0}, {0, 1, 1}}, []int{0, 0, 0}, []int{0, 0}},
		{api.Mask{{0}}, []int{top}, []int{0}},
		{api.Mask{{-1}}, []int{-top}, []int{top}},
		{api.Mask{{1}, {0}, {-1}}, []int{4}, []int{4, 0, -4}},
		{full(6, 10, 1), filled(10, top), filled(6, 10*top)},
		{full(6, 10, -1), filled(10, top), filled(6, -10*top)},
		{full(1, 10, -1), filled(10, -top), []int{10 * top}},
	} {
		if y, e := mask.Read(c.m, c.x); e != api.OK || !slices.Equal(y, c.y) {
			t.Error("Read", c.m, c.x, y, e)
		}
	}
}

func TestBack(t *testing.T) {
	for _, c := range []struct {
		m    api.Mask
		y, x []int
	}{
		{api.Mask{{1, -1, 0}}, []int{3}, []int{3, -3, 0}},
		{api.Mask{{1, 1, 0}, {0, 1, 1}}, []int{7, 11}, []int{7, 18, 11}},
		{api.Mask{{1, 1, 0}, {0, -1, 1}}, []int{7, 11}, []int{7, -4, 11}},
		{api.Mask{{1}, {0}, {-1}}, []int{4, 5, 6}, []int{-2}},
		{full(6, 10, 0), filled(6, topBack), filled(10, 0)},
		{full(6, 10, 1), filled(6, topBack), filled(10, 6*topBack)},
		{full(6, 10, -1), filled(6, topBack), filled(10, -6*topBack)},
		{full(1, 1, -1), []int{-topBack}, []int{topBack}},
	} {
		if x, e := mask.Back(c.m, c.y); e != api.OK || !slices.Equal(x, c.x) {
			t.Error("Back", c.m, c.y, x, e)
		}
	}
}

func TestErrorsOfBack(t *testing.T) {
	check := func(m api.Mask, y []int, want api.Errno) {
		t.Helper()
		if x, e := mask.Back(m, y); len(x) != 0 || e != want {
			t.Error("Back", m, y, x, e)
		}
	}
	for _, m := range []api.Mask{{{1}}, {{1, 0, -1}}, full(6, 10, 0), full(2, 3, 1), full(3, 2, 1)} {
		for length := range 14 {
			if length != len(m) {
				check(m, filled(length, 7), api.ErrSize)
				check(m, filled(length, topBack+1), api.ErrSize)
			}
		}
		for i := range m {
			for _, n := range []int{topBack + 1, -topBack - 1, math.MaxInt, math.MinInt} {
				y := filled(len(m), 0)
				y[i] = n
				check(m, y, api.ErrRange)
			}
		}
	}
	for _, m := range wrongMasks() {
		check(m, nil, api.ErrInvalid)
		check(m, filled(len(m), 0), api.ErrInvalid)
		check(m, filled(len(m)+1, topBack+1), api.ErrInvalid)
	}
}

// P2.2.
func TestAdjoint(t *testing.T) {
	var s numbers
	for _, m := range masks() {
		for _, limit := range []int{1, 10, top} {
			x := s.list(len(m[0]), limit)
			y := s.list(len(m), limit*1000)
			read, e := mask.Read(m, x)
			back, f := mask.Back(m, y)
			if e != api.OK || f != api.OK || len(read) != len(m) || len(back) != len(m[0]) || dot(y, read) != dot(back, x) {
				t.Fatal("Read and Back", m, x, y, read, back)
			}
		}
	}
}

func TestReadOfSum(t *testing.T) {
	var s numbers
	for _, m := range masks() {
		a, b := s.list(len(m[0]), top/2), s.list(len(m[0]), top/2)
		readA, _ := mask.Read(m, a)
		readB, _ := mask.Read(m, b)
		both, e := mask.Read(m, added(a, b))
		if e != api.OK || !slices.Equal(both, added(readA, readB)) {
			t.Fatal("Read of a sum", m, a, b, readA, readB, both)
		}
	}
}
